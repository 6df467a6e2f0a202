import PyProof.Rows.All
import Wide.All
import OpenK.AllK
import Wide.FinOn
import Lean
import PyProof.EqAt
import PyProof.EqKinds
import PyProof.TupleCall
import PySem.Challenge.RW_phialhouse_k32_phials_that_fit
set_option Elab.async false
set_option linter.all false
set_option maxRecDepth 100000
set_option maxHeartbeats 4000000
/-! THE HAND LAYER, for ints, bools, texts, own classes, LISTS and tuples (index, slices, in, append, pop ..), calls, loops. Paste it whole ahead of your own text; what your proof does not reach may be deleted. -/
namespace L2
open PySem PySem.Spec PyProof.Rows

/-- a key: an int or a str -/
abbrev Key := Sum Int Str
def keyIs : Key → Value → Bool
  | .inl k, v => Value.isInt k v
  | .inr x, v => Value.isStrOf x v
def keyH (w : World) : Key → Int
  | .inl k => hashInt k
  | .inr x => hashStr w x
theorem keyIs_shape : ∀ {k : Key} {v : Value}, keyIs k v = true → (∃ i t, k = Sum.inl i ∧ v = Value.int i t) ∨ (∃ x t, k = Sum.inr x ∧ v = Value.str x t)
  | .inl i, v, h => by
    obtain ⟨t, e⟩ := Value.isInt_shape (k := i) (v := v) h
    exact .inl ⟨i, t, rfl, e⟩
  | .inr x, v, h => by
    obtain ⟨t, e⟩ := Value.isStrOf_shape (x := x) (v := v) h
    exact .inr ⟨x, t, rfl, e⟩
theorem key_ll (a b : Int) : decide ((Sum.inl a : Key) = Sum.inl b) = (a == b) := by
  by_cases e : a = b
  · subst e; simp
  · have h : ¬ (Sum.inl a : Key) = Sum.inl b := fun q => e (Sum.inl.inj q)
    rw [decide_eq_false h]
    exact (beq_eq_false_iff_ne.mpr e).symm
theorem key_rr (a b : Str) : decide ((Sum.inr a : Key) = Sum.inr b) = decide (a = b) := by
  by_cases e : a = b
  · subst e; simp
  · have h : ¬ (Sum.inr a : Key) = Sum.inr b := fun q => e (Sum.inr.inj q)
    rw [decide_eq_false h, decide_eq_false e]
theorem key_lr (a : Int) (b : Str) : decide ((Sum.inl a : Key) = Sum.inr b) = false := decide_eq_false (fun q => nomatch q)
theorem key_rl (a : Str) (b : Int) : decide ((Sum.inr a : Key) = Sum.inl b) = false := decide_eq_false (fun q => nomatch q)

def mixKind (prog : Program) (w : World) : PySem.KeyKind prog w Key where
  is := keyIs
  hash := keyH w
  inj := fun v a b ha hb => by
    rcases keyIs_shape ha with ⟨i, t, rfl, rfl⟩ | ⟨x, t, rfl, rfl⟩
    · rcases keyIs_shape hb with ⟨j, u, rfl, e⟩ | ⟨y, u, rfl, e⟩
      · injection e with e1 _; rw [e1]
      · exact nomatch e
    · rcases keyIs_shape hb with ⟨j, u, rfl, e⟩ | ⟨y, u, rfl, e⟩
      · exact nomatch e
      · injection e with e1 _; rw [e1]
  byValue := fun k v h => by
    rcases keyIs_shape h with ⟨i, t, rfl, rfl⟩ | ⟨x, t, rfl, rfl⟩ <;> rfl
  pyHash := fun hv h => by
    rcases keyIs_shape hv with ⟨i, t, rfl, rfl⟩ | ⟨x, t, rfl, rfl⟩
    · exact wpAny_pyHash_int h
    · exact wpAny_pyHash_str h
  eqBool := fun hu hv h => by
    rcases keyIs_shape hu with ⟨i, t, rfl, rfl⟩ | ⟨x, t, rfl, rfl⟩
    · rcases keyIs_shape hv with ⟨j, u, rfl, rfl⟩ | ⟨y, u, rfl, rfl⟩
      · rw [key_ll] at h; exact wpAny_eqBool_int h
      · rw [key_lr] at h; exact SeqAt.EqAt.int_str i t y u _ _ _ _ h
    · rcases keyIs_shape hv with ⟨j, u, rfl, rfl⟩ | ⟨y, u, rfl, rfl⟩
      · rw [key_rl] at h; exact SeqAt.EqAt.str_int x t j u _ _ _ _ h
      · rw [key_rr] at h; exact wpAny_eqBool_str h
  «strs» := fun k x t v h => by
    rcases keyIs_shape h with ⟨i, u, rfl, e⟩ | ⟨y, u, rfl, e⟩
    · exact nomatch e
    · injection e with e1 _
      subst e1
      cases v <;> rfl

end L2

namespace L2
open PySem PySem.Spec PyProof.Rows

/-- a value, without the heap -/
inductive V where
  | non | bl (b : Bool) | int (i : Int) | str (x : Str) | byt (b : Array UInt8) | flt (b : UInt64) | ref (a : Addr) | ty (n : String)
  deriving DecidableEq

def RelV : V → Value → Prop
  | .non, u => u = Value.none
  | .bl b, u => u = Value.bool b
  | .int i, u => ∃ t, u = Value.int i t
  | .str x, u => ∃ t, u = Value.str x t
  | .byt b, u => ∃ t, u = Value.bytes b t
  | .flt b, u => ∃ t, u = Value.float b t
  | .ref a, u => u = Value.ref a
  | .ty n, u => u = Value.type n

abbrev Vals : List V → List Value → Prop := Paired RelV
theorem Vals.length {xs : List V} {us : List Value} (r : Vals xs us) : xs.length = us.length := Paired.length r
theorem Vals.get : ∀ {xs : List V} {us : List Value} {i : Nat} {x : V}, Vals xs us → xs[i]? = some x → ∃ u, us[i]? = some u ∧ RelV x u
  | _, _, _, _, .nil, e => by simp at e
  | _, _, 0, _, .cons r _, e => by simp at e; subst e; exact ⟨_, rfl, r⟩
  | _, _, i + 1, x, .cons _ t, e => by
    obtain ⟨u, h1, h2⟩ := Vals.get (i := i) (x := x) t (by simpa using e)
    exact ⟨u, by simpa using h1, h2⟩
theorem Vals.set {x : V} {u : Value} (r : RelV x u) : ∀ {xs : List V} {us : List Value} (i : Nat), Vals xs us → Vals (xs.set i x) (us.set i u)
  | _, _, _, .nil => .nil
  | _, _, 0, .cons _ t => .cons r t
  | _, _, i + 1, .cons q t => .cons q (Vals.set r i t)
theorem Vals.append : ∀ {xs ys : List V} {us ws : List Value}, Vals xs us → Vals ys ws → Vals (xs ++ ys) (us ++ ws)
  | _, _, _, _, .nil, s => s
  | _, _, _, _, .cons r t, s => .cons r (Vals.append t s)
theorem Vals.take : ∀ {xs : List V} {us : List Value} (n : Nat), Vals xs us → Vals (xs.take n) (us.take n)
  | _, _, 0, _ => .nil
  | _, _, _ + 1, .nil => .nil
  | _, _, n + 1, .cons r t => .cons r (Vals.take n t)
theorem Vals.drop : ∀ {xs : List V} {us : List Value} (n : Nat), Vals xs us → Vals (xs.drop n) (us.drop n)
  | _, _, 0, r => r
  | _, _, _ + 1, .nil => .nil
  | _, _, n + 1, .cons _ t => Vals.drop n t
def RelO : Option V → Option Value → Prop
  | some v, some u => RelV v u
  | none, none => True
  | _, _ => False
def KV {κ : Type} : List (κ × V) → List (κ × Value) → Prop := Paired fun (p : κ × V) (q : κ × Value) => p.1 = q.1 ∧ RelV p.2 q.2

/-- a key of a dict (00_mix): an int or a text -/
def kV : Key → V
  | .inl i => .int i
  | .inr x => .str x

/-- what stands at a tracked address -/
inductive HO where
  /-- a list -/
  | lst (xs : List V)
  /-- a tuple (never changes) -/
  | tup (xs : List V)
  /-- a dict whose keys are ints and texts; one whose keys are tuples of ints and texts (the empty one is both) -/
  | dK (kvs : List (Key × V)) | dT (kvs : List (List Key × V))
  /-- a set of ints: its members, its size -/
  | set (S : Int → Bool) (n : Nat)
  /-- an instance of the class at C, its dict at dx, its attributes -/
  | ins (C dx : Addr) (fs : List (Str × V))
  /-- the dict of the instance at x -/
  | own (x : Addr)
  /-- the dict of an exception -/
  | xd (fs : List (Str × V))
  /-- a bound method, f of x -/
  | met (f x : Addr)
  /-- a range object lo, lo + 1, .. below hi -/
  | rng (lo hi : Int)
  /-- a thing that is known to the object (the script; a dict while a loop walks it): read, never written while it is so -/
  | frz (o : Obj) (u : HO)
  /-- a code object's table -/
  | tbl (ps : Array Value)
  /-- any other thing, by what is true of its one object (a def of one's own: SetO a S n := HO.ext fun h => ..) -/
  | ext (φ : Heap → Prop)

abbrev Hp := Addr → Option HO
def upd (H : Hp) (a : Addr) (o : HO) : Hp := fun b => if b = a then some o else H b
theorem upd_same {H : Hp} {a : Addr} {o : HO} : upd H a o a = some o := by unfold upd; rw [if_pos rfl]
theorem upd_ne {H : Hp} {a b : Addr} {o : HO} (h : b ≠ a) : upd H a o b = H b := by unfold upd; rw [if_neg h]
theorem ne_of_none {H : Hp} {a b : Addr} {o : HO} (h : H a = some o) (h' : H b = none) : a ≠ b := by
  intro e; subst e; rw [h] at h'; cases h'

section
variable (P : Program) (w : World)
def ObjOk (H : Hp) (h : Heap) (a : Addr) : HO → Prop
  | .lst xs => xs.length ≤ sizeLine ∧ ∃ (its : List Value) (n : Nat), Vals xs its ∧ h.get? a = some { cls := .type "list", data := .seq its.toArray n }
  | .tup xs => xs.length ≤ sizeLine ∧ ∃ its : List Value, Vals xs its ∧ IsTup h a its.toArray
  | .dK kvs => kvs.length ≤ sizeLine ∧ (a == sysModules) = false ∧ ∃ vs, KV kvs vs ∧ h.DictOf (mixKind P w) a vs
  | .dT kvs => kvs.length ≤ sizeLine ∧ (a == sysModules) = false ∧ ∃ xs : List (List Key × Addr × Value),
      Paired (fun (p : List Key × V) (q : List Key × Addr × Value) => p.1 = q.1 ∧ H q.2.1 = some (.tup (p.1.map kV)) ∧ RelV p.2 q.2.2) kvs xs ∧
      ∃ o es ep, h.get? a = some o ∧ o.ExactDict ∧ o.data = .dict es ep ∧ es.toList = xs.map (entryOfKey (tupleKind (mixKind P w))) ∧ (xs.map (·.1)).Nodup
  | .set S n => h.SetOf (intKind P w) a S n
  | .ins C dx fs => H dx = some (.own a) ∧ fs.length ≤ 1000 ∧ dx ≠ a ∧ h.get? a = some (PySem.W.instObj C dx) ∧
      ∃ mA, h.Ns1 dx mA ∧ (∀ f, RelO (fs.lookup f) (mA f)) ∧ PySem.Within mA (fs.map (·.1))
  | .own _ => ∃ o, h.get? a = some o
  | .xd fs => ∃ mA, h.Ns1 a mA ∧ ∀ f, RelO (fs.lookup f) (mA f)
  | .rng lo hi => ∃ t u v, h.get? a = some { cls := .type "range", data := .fields #[.int lo t, .int hi u, .int 1 v] }
  | .frz o u => h.get? a = some o ∧ ObjOk H h a u
  | .tbl ps => h.get? a = some { cls := .none, data := .fields ps }
  | .met f x => h.get? a = some (PySem.W.methodObj (.ref f) (.ref x))
  | .ext φ => φ h ∧ (∃ o, h.get? a = some o) ∧ ∀ h1 h2 : Heap, φ h1 → (∀ o, h1.get? a = some o → h2.get? a = some o) → φ h2
/-- the abstract heap is held -/
def HOk (H : Hp) (h : Heap) : Prop := ∀ a o, H a = some o → ObjOk P w H h a o
end

section
variable {P : Program} {w : World} {H H' : Hp} {h h' : Heap} {a : Addr} {o : HO}
theorem ObjOk.lt (x : ObjOk P w H h a o) : a < h.objs.size := by
  cases o with
  | lst xs => obtain ⟨_, _, _, _, e⟩ := x; exact Heap.lt_size e
  | tup xs => obtain ⟨_, _, _, p⟩ := x; exact p.lt
  | dK kvs => obtain ⟨_, _, _, _, o, _, _, e, _⟩ := x; exact Heap.lt_size e
  | dT kvs => obtain ⟨_, _, _, _, o, _, _, e, _⟩ := x; exact Heap.lt_size e
  | set S n => obtain ⟨o, _, _, _, e, _⟩ := x; exact Heap.lt_size e
  | ins C dx fs => obtain ⟨_, _, _, e, _⟩ := x; exact Heap.lt_size e
  | own y => obtain ⟨_, e⟩ := x; exact Heap.lt_size e
  | xd fs => obtain ⟨_, ⟨_, _, _, e, _⟩, _⟩ := x; exact Heap.lt_size e
  | rng lo hi => obtain ⟨_, _, _, e⟩ := x; exact Heap.lt_size e
  | frz ob u => obtain ⟨e, _⟩ := x; exact Heap.lt_size e
  | tbl ps => exact Heap.lt_size (show h.get? a = some _ from x)
  | met f y => exact Heap.lt_size (show h.get? a = some _ from x)
  | ext φ => obtain ⟨_, ⟨_, e⟩, _⟩ := x; exact Heap.lt_size e
theorem Paired.mapP {α β : Type} {F G : α → β → Prop} : ∀ {l₁ : List α} {l₂ : List β}, Paired F l₁ l₂ → (∀ a b, F a b → G a b) → Paired G l₁ l₂
  | _, _, .nil, _ => .nil
  | _, _, .cons r t, f => .cons (f _ _ r) (Paired.mapP t f)
/-- what an object's description leans on: its own object, its own dict, the tuples -/
theorem ObjOk.stay (x : ObjOk P w H h a o) (k : ∀ b u, (b = a ∨ H b = some (.own a)) → h.get? b = some u → h'.get? b = some u)
    (ho : ∀ b, H b = some (.own a) → H' b = some (.own a)) (ht : ∀ b xs, H b = some (.tup xs) → H' b = some (.tup xs)) : ObjOk P w H' h' a o := by
  induction o with
  | lst xs => obtain ⟨z, its, n, r, e⟩ := x; exact ⟨z, its, n, r, k _ _ (.inl rfl) e⟩
  | tup xs => obtain ⟨z, its, r, ob, e, c⟩ := x; exact ⟨z, its, r, ob, k _ _ (.inl rfl) e, c⟩
  | dK kvs => obtain ⟨z, y, vs, r, ob, es, ep, e, c⟩ := x; exact ⟨z, y, vs, r, ob, es, ep, k _ _ (.inl rfl) e, c⟩
  | dT kvs =>
    obtain ⟨z, y, xs, r, ob, es, ep, e, c⟩ := x
    exact ⟨z, y, xs, Paired.mapP r fun p q z => ⟨z.1, ht _ _ z.2.1, z.2.2⟩, ob, es, ep, k _ _ (.inl rfl) e, c⟩
  | set S n => obtain ⟨ob, es, ep, t, e, c⟩ := x; exact ⟨ob, es, ep, t, k _ _ (.inl rfl) e, c⟩
  | ins C dx fs =>
    obtain ⟨d, z, ne, e, mA, ⟨od, es, ep, e2, c⟩, r⟩ := x
    exact ⟨ho _ d, z, ne, k _ _ (.inl rfl) e, mA, ⟨od, es, ep, k _ _ (.inr d) e2, c⟩, r⟩
  | own y => obtain ⟨ob, e⟩ := x; exact ⟨ob, k _ _ (.inl rfl) e⟩
  | xd fs => obtain ⟨mA, ⟨od, es, ep, e, c⟩, r⟩ := x; exact ⟨mA, ⟨od, es, ep, k _ _ (.inl rfl) e, c⟩, r⟩
  | rng lo hi => obtain ⟨t, u, v, e⟩ := x; exact ⟨t, u, v, k _ _ (.inl rfl) e⟩
  | frz ob u ih => obtain ⟨e, q⟩ := x; exact ⟨k _ _ (.inl rfl) e, ih q⟩
  | tbl ps =>
    have e : h.get? a = some { cls := .none, data := .fields ps } := x
    show h'.get? a = some { cls := .none, data := .fields ps }
    exact k a _ (.inl rfl) e
  | met f y =>
    have e : h.get? a = some (PySem.W.methodObj (.ref f) (.ref y)) := x
    show h'.get? a = some (PySem.W.methodObj (.ref f) (.ref y))
    exact k a _ (.inl rfl) e
  | ext φ => obtain ⟨p, ⟨o, e⟩, st⟩ := x; exact ⟨st _ _ p fun o q => k _ _ (.inl rfl) q, ⟨o, k _ _ (.inl rfl) e⟩, st⟩
theorem HOk.lt (x : HOk P w H h) (e : H a = some o) : a < h.objs.size := (x a o e).lt
theorem HOk.fresh (x : HOk P w H h) (e : h.objs.size ≤ a) : H a = none := by
  cases q : H a with
  | none => rfl
  | some u => exact absurd (Nat.lt_of_lt_of_le (x.lt q) e) (Nat.lt_irrefl _)
/-- every object of the heap is kept -/
theorem HOk.kept (x : HOk P w H h) (k : ∀ b u, h.get? b = some u → h'.get? b = some u) : HOk P w H h' := fun a o e =>
  (x a o e).stay (fun b u _ q => k b u q) (fun _ q => q) fun _ _ q => q
/-- a new object is laid and tracked -/
theorem HOk.laid (x : HOk P w H h) (k : ∀ b u, h.get? b = some u → h'.get? b = some u) (hp : h.objs.size ≤ a) (new : ObjOk P w (upd H a o) h' a o) : HOk P w (upd H a o) h' := fun b u e => by
  have hn := x.fresh hp
  by_cases hb : b = a
  · subst hb; rw [upd_same] at e; cases e; exact new
  · rw [upd_ne hb] at e
    exact (x b u e).stay (fun c v _ q => k c v q) (fun c q => by rw [upd_ne (ne_of_none q hn)]; exact q) fun c xs q => by rw [upd_ne (ne_of_none q hn)]; exact q
end

/-- what may be read as u: it is u, or a known u -/
def Rd (H : Hp) (a : Addr) (u : HO) : Prop := H a = some u ∨ ∃ o, H a = some (.frz o u)
theorem Rd.ok {P : Program} {w : World} {H : Hp} {h : Heap} {a : Addr} {u : HO} (r : Rd H a u) (x : HOk P w H h) : ObjOk P w H h a u := by
  rcases r with r | ⟨o, r⟩
  · exact x a u r
  · obtain ⟨_, q⟩ := x a _ r
    exact q
/-- what may be written -/
def Mut : Option HO → Prop
  | some (.lst _) => True
  | some (.dK _) => True
  | some (.dT _) => True
  | some (.set _ _) => True
  | some (.ins _ _ _) => True
  | some (.ext _) => True
  | _ => False
section
variable {P : Program} {w : World} {H : Hp} {h h' : Heap} {x e : Addr} {o' : HO}
/-- the object at e is changed: x itself, or the dict of the instance x -/
theorem HOk.write (ok : HOk P w H h) (mu : Mut (H x)) (he : e = x ∨ H e = some (.own x)) (k : ∀ b u, b ≠ e → h.get? b = some u → h'.get? b = some u) (heo : ∃ u, h'.get? e = some u)
    (new : ObjOk P w (upd H x o') h' x o') : HOk P w (upd H x o') h' := fun b u q => by
  have nown : ∀ c y, H c = some (.own y) → c ≠ x := fun c y r z => by subst z; rw [r] at mu; exact mu
  have ntup : ∀ c xs, H c = some (.tup xs) → c ≠ x := fun c xs r z => by subst z; rw [r] at mu; exact mu
  by_cases hb : b = x
  · subst hb; rw [upd_same] at q; cases q; exact new
  · rw [upd_ne hb] at q
    by_cases hbe : b = e
    · have q' : H b = some (.own x) := by
        rcases he with z | z
        · exact absurd (hbe.trans z) hb
        · rw [hbe]; exact z
      rw [q] at q'; cases q'
      obtain ⟨v, hv⟩ := heo
      exact ⟨v, by rw [hbe]; exact hv⟩
    · refine (ok b u q).stay (fun c v hc r => k c v ?_ r) (fun c r => by rw [upd_ne (nown c b r)]; exact r) fun c xs r => by rw [upd_ne (ntup c xs r)]; exact r
      rcases hc with rfl | hc
      · exact hbe
      · rintro rfl
        rcases he with z | z
        · exact nown c b hc z
        · rw [hc] at z; cases z; exact hb rfl
end

/-! ### kept unless tracked; of the frames at fs (the callers') the slots may change (an exception that passes writes there); of the records at ex (iterators) nothing is said -/
structure Un (fs ex : List Addr) (H H' : Hp) (h h' : Heap) : Prop where
  keep : ∀ b o, h.get? b = some o → H b = none → b ∉ fs → b ∉ ex → h'.get? b = some o
  slot : ∀ b o, h.get? b = some o → H b = none → b ∈ fs → b ∉ ex → ∃ sl, h'.get? b = some { o with slots := sl }
  free : ∀ b o, h.get? b = some o → H b = none → b ∉ ex → H' b = none
  there : ∀ b o, h.get? b = some o → b ∉ ex → ∃ o', h'.get? b = some o'
  tups : ∀ b xs, H b = some (.tup xs) → H' b = some (.tup xs)
  frzs : ∀ b o u, H b = some (.frz o u) → H' b = some (.frz o u)
  tbls : ∀ b ps, H b = some (.tbl ps) → ∃ more, H' b = some (.tbl (ps ++ more))
section
variable {fs fs' ex ex' : List Addr} {H H1 H2 : Hp} {h h1 h2 h' : Heap} {a x e : Addr} {o : HO}
theorem Un.any (u : Un fs ex H H1 h h1) {b : Addr} {ob : Obj} (q : h.get? b = some ob) (n : H b = none) (hx : b ∉ ex) : ∃ sl, h1.get? b = some { ob with slots := sl } := by
  by_cases hb : b ∈ fs
  · exact u.slot b ob q n hb hx
  · exact ⟨ob.slots, u.keep b ob q n hb hx⟩
theorem Un.kept (k : ∀ b u, h.get? b = some u → h'.get? b = some u) : Un fs ex H H h h' :=
  ⟨fun b ob q _ _ _ => k b ob q, fun b ob q _ _ _ => ⟨ob.slots, k b ob q⟩, fun _ _ _ n _ => n, fun b ob q _ => ⟨ob, k b ob q⟩, fun _ _ q => q, fun _ _ _ q => q, fun _ ps q => ⟨#[], by rw [q]; simp⟩⟩
theorem Un.refl : Un fs ex H H h h := Un.kept fun _ _ q => q
theorem Un.laid (k : ∀ b u, h.get? b = some u → h'.get? b = some u) (hp : h.objs.size ≤ a) (hn : H a = none) : Un fs ex H (upd H a o) h h' where
  keep := fun b u q _ _ _ => k b u q
  slot := fun b u q _ _ _ => ⟨u.slots, k b u q⟩
  free := fun b u q n _ => by rw [upd_ne (Nat.ne_of_lt (Nat.lt_of_lt_of_le (Heap.lt_size q) hp))]; exact n
  there := fun b u q _ => ⟨u, k b u q⟩
  tups := fun b xs q => by rw [upd_ne (ne_of_none q hn)]; exact q
  frzs := fun b u xs q => by rw [upd_ne (ne_of_none q hn)]; exact q
  tbls := fun b ps q => ⟨#[], by rw [upd_ne (ne_of_none q hn), q]; simp⟩
theorem Un.write (mu : Mut (H x)) (he : e = x ∨ H e = some (.own x)) (k : ∀ b u, b ≠ e → h.get? b = some u → h'.get? b = some u) (heo : ∃ u, h'.get? e = some u) : Un fs ex H (upd H x o) h h' := by
  have hx : ∀ b, H b = none → b ≠ x := fun b n z => by subst z; rw [n] at mu; exact mu
  have hb : ∀ b, H b = none → b ≠ e := fun b n z => by
    subst z
    rcases he with r | r
    · exact hx b n r
    · rw [n] at r; cases r
  have hm : ∀ b u, H b = some u → ¬ Mut (some u) → b ≠ x := fun b u q nm z => by subst z; rw [q] at mu; exact nm mu
  refine ⟨fun b u q n _ _ => k b u (hb b n) q, fun b u q n _ _ => ⟨u.slots, k b u (hb b n) q⟩, fun b u q n _ => by rw [upd_ne (hx b n)]; exact n, fun b u q _ => ?_,
    fun b xs q => by rw [upd_ne (hm b _ q fun z => z)]; exact q, fun b u xs q => by rw [upd_ne (hm b _ q fun z => z)]; exact q, fun b ps q => ⟨#[], by rw [upd_ne (hm b _ q fun z => z), q]; simp⟩⟩
  by_cases hbe : b = e
  · subst hbe; exact heo
  · exact ⟨u, k b u hbe q⟩
end

/-! ### the heap without what is tracked -/
def trk (h : Heap) (H : Hp) : List Addr := (List.range h.objs.size).filter fun a => (H a).isSome
def hidT (h : Heap) (H : Hp) : Heap := PySem.W.hideAll h (trk h H)
theorem hidT_size (h : Heap) (H : Hp) : (hidT h H).objs.size = h.objs.size := PySem.W.hideAll_size _ _
theorem hidT_get {h : Heap} {H : Hp} {b : Addr} {o : Obj} (e : h.get? b = some o) (n : H b = none) : (hidT h H).get? b = some o :=
  PySem.W.hideAll_get _ e fun hm => by
    have q : (H b).isSome = true := (List.mem_filter.mp hm).2
    rw [n] at q; simp at q
theorem of_hidT {h : Heap} {H : Hp} {b : Addr} {o : Obj} (e : (hidT h H).get? b = some o) : h.get? b = some o ∧ H b = none := by
  have e' : h.get? b = some o := PySem.W.of_hideAll (trk h H) e
  refine ⟨e', ?_⟩
  cases q : H b with
  | none => rfl
  | some x =>
    have hm : b ∈ trk h H := List.mem_filter.mpr ⟨List.mem_range.mpr (Heap.lt_size e'), by simp [q]⟩
    have z : (hidT h H).get? b = none := PySem.W.hideAll_none (trk h H) hm
    rw [z] at e; cases e

/-! ### OpenK's ledger, filled with every new object but one -/
def allNews (g h : Heap) (L : Addr) : List (Addr × Obj) := (List.range h.objs.size).filterMap fun a => if a = L ∨ (g.get? a).isSome = true then none else (h.get? a).map fun o => (a, o)
def rest (g h : Heap) (L d : Addr) : List (Addr × Obj) := (allNews g h L).filter fun p => decide (p.1 ≠ d)
end L2

namespace L2
open PySem PySem.Spec PyProof.Rows

/-- the module's facts, over the base: the heap at the law's entry without what is tracked there -/
structure Mod (K : PySem.W.Frag) (mg : Str → Option Value) (base : Heap) : Prop where
  kin : K.In base
  glob : base.Ns mainGlobals mg
  blt : ∃ mb, base.Ns builtinsNs mb ∧ ∀ x : Str, x ≠ "__name__" → mb x = bootBuiltins x
  nolimit : base.NoLimit

/-- the context: a def's body (or a comprehension's block) running. base: fixed through the whole law; s₀, H₀: the entry; outer: the frames whose slots others may change (a def's callers); stack: all frames that run;
   ex: iterators that were made ahead of the entry and are walked here (a comprehension's); fn: the names whose cells were made at the entry (a def: all; a comprehension's block: its own); calm: not within an except suite; pn: pins that every state bears; xe: what is wanted of an exception that leaves the code -/
structure Cx where
  prog : Program
  w : World
  K : PySem.W.Frag
  mg : Str → Option Value
  base : Heap
  A : Around
  N : List Str
  s₀ : Shared
  H₀ : Hp
  env : Env
  outer : List Env
  stack : List Env
  ex : List Addr
  fn : Str → Bool
  calm : Bool
  pn : List (Addr × Obj)
  xe : Value → Shared → Prop
/-- the callers' frames -/
def frs (l : List Env) : List Addr := l.filterMap (·.frame)
abbrev Cx.fs (X : Cx) : List Addr := frs X.outer

def Vis (sc : Scope) (x : Str) : Prop := sc.names.lookup x = some .local ∨ sc.names.lookup x = some .cell ∨ sc.names.lookup x = some .free
def Loc (sc : Scope) (x : Str) : Prop := sc.names.lookup x = some .local ∨ sc.names.lookup x = some .cell
def Look (env : Env) (h : Heap) (m : Str → Option Value) (x : Str) (u : Value) : Prop :=
  (env.kindOf x = some .local ∧ m x = some u) ∨ ((env.kindOf x = some .cell ∨ env.kindOf x = some .free) ∧ ∃ c, env.cells.lookup x = some c ∧ h.IsCell c (some u))

structure Cx.Ok (X : Cx) : Prop where
  mod : Mod X.K X.mg X.base
  kind : X.env.scope.kind = .function
  glob : X.env.globals = mainGlobals
  blt : X.env.builtins = builtinsNs
  above : X.s₀.heap.objs.size ≤ X.env.locals
  inj : ∀ x y c, X.env.cells.lookup x = some c → X.env.cells.lookup y = some c → x = y
  has : ∀ x, (X.env.kindOf x = some .cell ∨ X.env.kindOf x = some .free) → ∃ c, X.env.cells.lookup x = some c
  cab : ∀ x c, X.fn x = true → X.env.cells.lookup x = some c → X.s₀.heap.objs.size ≤ c
  hd : X.calm = true → X.A.handled = none
  frames : X.A.frames = some X.stack
  stk : X.stack = X.outer ∨ (X.stack = X.env :: X.outer ∧ X.env.frame = some X.env.locals)
  exf : ∀ b ∈ X.ex, b ≠ X.env.locals ∧ ∀ x c, X.env.cells.lookup x = some c → c ≠ b
  bs : ∀ b o, X.base.get? b = some o → X.s₀.heap.get? b = some o ∧ X.H₀ b = none
  bsz : X.base.objs.size ≤ X.s₀.heap.objs.size
  noex : ∀ b o, X.base.get? b = some o → b ∉ X.ex
  exfs : ∀ b ∈ X.ex, b ∉ X.fs
  funs : X.s₀.heap.FunFrames X.base X.outer
  frf : ∀ b ∈ X.fs, X.H₀ b = none

structure Inv (X : Cx) (pins : List (Addr × Obj)) (σ : List (Option V)) (H : Hp) (s : Shared) : Prop where
  ok : X.Ok
  os : s.os = X.s₀.os
  bare : AllBare s.gens
  base : Un X.fs X.ex X.H₀ H X.s₀.heap s.heap
  loc : ∃ m, s.heap.Ns X.env.locals m ∧ ∀ (i : Nat) (x : Str) (v : V), X.N[i]? = some x → σ[i]? = some (some v) → Vis X.env.scope x → ∃ u, RelV v u ∧ Look X.env s.heap m x u
  cell : ∀ x c, X.env.cells.lookup x = some c → ∃ v, s.heap.IsCell c v
  free : H X.env.locals = none
  freeC : ∀ x c, X.env.cells.lookup x = some c → H c = none
  pin : ∀ p ∈ X.pn ++ pins, s.heap.get? p.1 = some p.2 ∧ H p.1 = none ∧ p.1 ≠ X.env.locals ∧ p.1 ∉ X.fs ∧ ∀ v, p.2.data ≠ .cell v
  hok : HOk X.prog X.w H s.heap
  len : σ.length = X.N.length

section
variable {X : Cx} {pins : List (Addr × Obj)} {σ : List (Option V)} {H H' : Hp} {s : Shared} {h' : Heap}

theorem Cx.Ok.nofr (ok : X.Ok) {b : Addr} {o : Obj} (e : X.base.get? b = some o) : b ∉ X.fs := fun hb => by
  have := (ok.funs.mem hb).1
  rw [e] at this; cases this
theorem Inv.bs (I : Inv X pins σ H s) : ∀ b o, X.base.get? b = some o → s.heap.get? b = some o ∧ H b = none := fun b o e =>
  ⟨I.base.keep b o (I.ok.bs b o e).1 (I.ok.bs b o e).2 (I.ok.nofr e) (I.ok.noex b o e), I.base.free b o (I.ok.bs b o e).1 (I.ok.bs b o e).2 (I.ok.noex b o e)⟩
theorem Inv.bk (I : Inv X pins σ H s) : ∀ b o, X.base.get? b = some o → s.heap.get? b = some o := fun b o e => (I.bs b o e).1
theorem Inv.mod (I : Inv X pins σ H s) : Mod X.K X.mg X.base := I.ok.mod
theorem Inv.kIn (I : Inv X pins σ H s) : X.K.In s.heap := I.ok.mod.kin.keeps I.bk
/-- the frame over the base: for OpenK's rules (K.In X.base is I.mod.kin) -/
theorem Inv.fr (I : Inv X pins σ H s) : ∃ m, Fr X.base X.env.locals s.heap m :=
  let ⟨m, hn, _⟩ := I.loc
  ⟨m, hn, I.bk, Nat.le_trans I.ok.bsz I.ok.above⟩
theorem Inv.lt (I : Inv X pins σ H s) : X.env.locals < s.heap.objs.size := let ⟨_, hn, _⟩ := I.loc; hn.lt
theorem Inv.sz (I : Inv X pins σ H s) : X.s₀.heap.objs.size ≤ s.heap.objs.size := Nat.le_trans I.ok.above (Nat.le_of_lt I.lt)
theorem Inv.nofs (I : Inv X pins σ H s) {a : Addr} (h : s.heap.objs.size ≤ a) : a ∉ X.fs := fun hb => by
  obtain ⟨_, o, ho, _⟩ := I.ok.funs.mem hb
  exact absurd (Nat.lt_of_lt_of_le (Heap.lt_size ho) (Nat.le_trans I.sz h)) (Nat.lt_irrefl _)
theorem Inv.cne (I : Inv X pins σ H s) : ∀ x c, X.env.cells.lookup x = some c → c ≠ X.env.locals := fun x c e z => by
  obtain ⟨v, o, ho, hd⟩ := I.cell x c e
  obtain ⟨m, ⟨o', es, ep, ho', hd', _⟩, _⟩ := I.loc
  rw [z, ho'] at ho; cases ho; rw [hd'] at hd; cases hd
theorem Inv.funs (I : Inv X pins σ H s) : s.heap.FunFrames X.base X.outer := by
  have all : ∀ (l : List Env), (∀ b ∈ frs l, b ∈ X.fs) → X.s₀.heap.FunFrames X.base l → s.heap.FunFrames X.base l := by
    intro l
    induction l with
    | nil => intro _ _; trivial
    | cons env r ih =>
      intro hs hl
      obtain ⟨hk, ⟨L, o, hf, hn, ho, hd⟩, hr⟩ := hl
      have hL : L ∈ X.fs := hs L (by unfold frs; rw [List.filterMap_cons, hf]; exact List.mem_cons_self)
      obtain ⟨sl, e⟩ := I.base.slot L o ho (I.ok.frf L hL) hL fun z => I.ok.exfs L z hL
      exact ⟨hk, ⟨L, _, hf, hn, e, hd⟩, ih (fun b hb => hs b (by unfold frs; rw [List.filterMap_cons, hf]; exact List.mem_cons_of_mem _ hb)) hr⟩
  exact all X.outer (fun _ hb => hb) I.ok.funs

/-- the frames that run, for a call -/
theorem Inv.stack (I : Inv X pins σ H s) : s.heap.FunFrames X.base X.stack := by
  rcases I.ok.stk with e | ⟨e, hf⟩
  · rw [e]; exact I.funs
  · rw [e]
    obtain ⟨m, hn, _⟩ := I.loc
    refine .cons (by rw [I.ok.kind]; decide) hf hn ?_ I.funs
    exact Heap.get?_none_of_le (Nat.le_trans I.ok.bsz I.ok.above)
theorem Inv.stkSub (I : Inv X pins σ H s) : ∀ b ∈ frs X.stack, b ∈ X.env.locals :: X.fs := fun b hb => by
  rcases I.ok.stk with e | ⟨e, hf⟩
  · rw [e] at hb; exact List.mem_cons_of_mem _ hb
  · rw [e] at hb
    unfold frs at hb
    rw [List.filterMap_cons, hf] at hb
    exact hb
theorem Inv.stkFree (I : Inv X pins σ H s) : ∀ b ∈ frs X.stack, H b = none := fun b hb => by
  rcases List.mem_cons.mp (I.stkSub b hb) with e | hb
  · rw [e]; exact I.free
  · obtain ⟨_, o, ho, _⟩ := I.ok.funs.mem hb
    exact I.base.free b o ho (I.ok.frf b hb) fun z => I.ok.exfs b z hb

/-- THE STEP: the untracked objects but the frame and the records at ch are kept (the callers' frames up to slots), the frame's map is kept, the new abstract heap is held -/
theorem Inv.step {g' : Array GenState} {t' : Nat} {d' : Drawn} {ch : List Addr} (I : Inv X pins σ H s)
    (hch : ∀ b ∈ ch, (b ∈ X.ex ∨ X.s₀.heap.objs.size ≤ b) ∧ b ≠ X.env.locals ∧ (∀ x c, X.env.cells.lookup x = some c → c ≠ b) ∧ ∀ p ∈ X.pn ++ pins, p.1 ≠ b)
    (keep : ∀ b o, b ≠ X.env.locals → b ∉ X.fs → b ∉ ch → s.heap.get? b = some o → H b = none → h'.get? b = some o)
    (slot : ∀ b o, b ≠ X.env.locals → b ∈ X.fs → b ∉ ch → s.heap.get? b = some o → H b = none → ∃ sl, h'.get? b = some { o with slots := sl }) (free : ∀ b o, b ∉ ch → s.heap.get? b = some o → H b = none → H' b = none)
    (there : ∀ b o, b ∉ ch → s.heap.get? b = some o → ∃ o', h'.get? b = some o')
    (tups : ∀ b xs, H b = some (.tup xs) → H' b = some (.tup xs)) (frzs : ∀ b o u, H b = some (.frz o u) → H' b = some (.frz o u)) (tbls : ∀ b ps, H b = some (.tbl ps) → ∃ more, H' b = some (.tbl (ps ++ more)))
    (ns : ∀ m, s.heap.Ns X.env.locals m → h'.Ns X.env.locals m) (hok : HOk X.prog X.w H' h') (hg : AllBare g') :
    Inv X pins σ H' { s with heap := h', gens := g', drawn := d', toks := t' } := by
  have neL : ∀ b o, X.s₀.heap.get? b = some o → b ≠ X.env.locals := fun b o e => Nat.ne_of_lt (Nat.lt_of_lt_of_le (Heap.lt_size e) I.ok.above)
  have neC : ∀ b o, X.s₀.heap.get? b = some o → b ∉ X.ex → b ∉ ch := fun b o e hx hb => by
    rcases (hch b hb).1 with z | z
    · exact hx z
    · exact absurd (Nat.lt_of_lt_of_le (Heap.lt_size e) z) (Nat.lt_irrefl _)
  have cellK : ∀ x c, X.env.cells.lookup x = some c → ∀ v, s.heap.IsCell c v → h'.IsCell c v := fun x c e v ⟨o, ho, hd⟩ => by
    have nch : c ∉ ch := fun z => (hch c z).2.2.1 x c e rfl
    by_cases hc : c ∈ X.fs
    · obtain ⟨sl, q⟩ := slot c o (I.cne x c e) hc nch ho (I.freeC x c e)
      exact ⟨_, q, hd⟩
    · exact ⟨o, keep c o (I.cne x c e) hc nch ho (I.freeC x c e), hd⟩
  refine ⟨I.ok, I.os, hg, ⟨fun b o e n hb hx => ?_, fun b o e n hb hx => ?_, fun b o e n hx => ?_, fun b o e hx => ?_, fun b xs e => tups b xs (I.base.tups b xs e), fun b o xs e => frzs b o xs (I.base.frzs b o xs e), fun b ps e => ?_⟩, ?_, fun x c e => ?_, ?_, fun x c e => ?_, fun p hp => ?_, hok, I.len⟩
  · exact keep b o (neL b o e) hb (neC b o e hx) (I.base.keep b o e n hb hx) (I.base.free b o e n hx)
  · obtain ⟨sl, e1⟩ := I.base.slot b o e n hb hx
    obtain ⟨sl', e2⟩ := slot b _ (neL b o e) hb (neC b o e hx) e1 (I.base.free b o e n hx)
    exact ⟨sl', e2⟩
  · obtain ⟨o', e1⟩ := I.base.there b o e hx
    exact free b o' (neC b o e hx) e1 (I.base.free b o e n hx)
  · obtain ⟨o', e1⟩ := I.base.there b o e hx
    exact there b o' (neC b o e hx) e1
  · obtain ⟨m1, e1⟩ := I.base.tbls b ps e
    obtain ⟨m2, e2⟩ := tbls b _ e1
    exact ⟨m1 ++ m2, by rw [e2, Array.append_assoc]⟩
  · obtain ⟨m, hn, hl⟩ := I.loc
    refine ⟨m, ns m hn, fun i x v e1 e2 e3 => ?_⟩
    obtain ⟨u, r, l⟩ := hl i x v e1 e2 e3
    refine ⟨u, r, ?_⟩
    rcases l with l | ⟨k, c, e, z⟩
    · exact .inl l
    · exact .inr ⟨k, c, e, cellK x c e _ z⟩
  · obtain ⟨v, z⟩ := I.cell x c e
    exact ⟨v, cellK x c e v z⟩
  · obtain ⟨m, ⟨o, _, _, ho, _⟩, _⟩ := I.loc
    exact free _ o (fun z => (hch _ z).2.1 rfl) ho I.free
  · obtain ⟨v, o, ho, hd⟩ := I.cell x c e
    exact free c o (fun z => (hch c z).2.2.1 x c e rfl) ho (I.freeC x c e)
  · obtain ⟨e, n, ne, nf, d⟩ := I.pin p hp
    have nch : p.1 ∉ ch := fun z => (hch p.1 z).2.2.2 p hp rfl
    exact ⟨keep p.1 p.2 ne nf nch e n, free p.1 p.2 nch e n, ne, nf, d⟩
/-- .. where the frame's own object is kept too -/
theorem Inv.un {t' : Nat} (I : Inv X pins σ H s) (u : Un X.fs [] H H' s.heap h') (hok : HOk X.prog X.w H' h') : Inv X pins σ H' { s with heap := h', toks := t' } := by
  obtain ⟨m, ⟨o, es, ep, ho, r⟩, _⟩ := id I.loc
  obtain ⟨sl, hL⟩ := u.any ho I.free (by simp)
  exact I.step (g' := s.gens) (d' := s.drawn) (ch := []) (fun _ z => nomatch z) (fun b o _ hb _ e n => u.keep b o e n hb (by simp)) (fun b o _ hb _ e n => u.slot b o e n hb (by simp)) (fun b o _ e n => u.free b o e n (by simp)) (fun b o _ e => u.there b o e (by simp)) u.tups u.frzs u.tbls (fun m' hm => by
    obtain ⟨o', es', ep', ho', r'⟩ := hm
    rw [ho] at ho'; cases ho'
    exact ⟨_, es', ep', hL, r'⟩) hok I.bare
/-- behind a call (or a comprehension's block): the slots of this frame may have changed too, the records at ch may have turned -/
theorem Inv.call {g' : Array GenState} {t' : Nat} {d' : Drawn} {ch : List Addr} (I : Inv X pins σ H s) (u : Un (frs X.stack) ch H H' s.heap h') (hok : HOk X.prog X.w H' h') (hg : AllBare g')
    (hch : ∀ b ∈ ch, (b ∈ X.ex ∨ X.s₀.heap.objs.size ≤ b) ∧ b ≠ X.env.locals ∧ (∀ x c, X.env.cells.lookup x = some c → c ≠ b) ∧ ∀ p ∈ X.pn ++ pins, p.1 ≠ b) :
    Inv X pins σ H' { s with heap := h', gens := g', drawn := d', toks := t' } := by
  obtain ⟨m, ⟨o, es, ep, ho, r⟩, _⟩ := id I.loc
  obtain ⟨sl, hL⟩ := u.any ho I.free fun z => (hch _ z).2.1 rfl
  exact I.step (ch := ch) hch (fun b o hL hb hc e n => u.keep b o e n (fun z => (List.mem_cons.mp (I.stkSub b z)).elim hL hb) hc) (fun b o _ _ hc e n => u.any e n hc) (fun b o hc e n => u.free b o e n hc) (fun b o hc e => u.there b o e hc) u.tups u.frzs u.tbls (fun m' hm => by
    obtain ⟨o', es', ep', ho', r'⟩ := hm
    rw [ho] at ho'; cases ho'
    exact ⟨_, es', ep', hL, r'⟩) hok hg
/-- an untracked record of ours (an iterator) has turned -/
theorem Inv.turned {t' : Nat} {it : Addr} (I : Inv X pins σ H s) (k : ∀ b o, b ≠ it → s.heap.get? b = some o → h'.get? b = some o) (hn : H it = none) (hL : it ≠ X.env.locals)
    (h1 : it ∈ X.ex ∨ X.s₀.heap.objs.size ≤ it) (h2 : ∀ x c, X.env.cells.lookup x = some c → c ≠ it) (h3 : ∀ p ∈ X.pn ++ pins, p.1 ≠ it) : Inv X pins σ H { s with heap := h', toks := t' } := by
  have nit : ∀ b u, H b = some u → b ≠ it := fun b u e z => by rw [z, hn] at e; cases e
  refine I.step (g' := s.gens) (d' := s.drawn) (ch := [it]) (fun b hb => ?_) (fun b o _ _ hc e _ => k b o (fun z => hc (by simp [z])) e) (fun b o _ _ hc e _ => ⟨o.slots, k b o (fun z => hc (by simp [z])) e⟩) (fun _ _ _ _ n => n)
    (fun b o hc e => ⟨o, k b o (fun z => hc (by simp [z])) e⟩) (fun _ _ e => e) (fun _ _ _ e => e) (fun b ps e => ⟨#[], by rw [e]; simp⟩) (fun m hm => ?_) (fun b u e => ?_) I.bare
  · have e : b = it := by simpa using hb
    subst e
    exact ⟨h1, hL, h2, h3⟩
  · obtain ⟨o, es, ep, ho, r⟩ := hm
    exact ⟨o, es, ep, k _ o (Ne.symm hL) ho, r⟩
  · refine (I.hok b u e).stay (fun c v hc q => k c v ?_ q) (fun _ q => q) fun _ _ q => q
    rcases hc with z | z
    · rw [z]; exact nit b u e
    · exact nit c _ z
theorem Inv.tok (I : Inv X pins σ H s) (t : Nat) : Inv X pins σ H { s with toks := t } := I.un (h' := s.heap) (t' := t) Un.refl I.hok
/-- all objects kept -/
theorem Inv.kept {t' : Nat} (I : Inv X pins σ H s) (k : ∀ b u, s.heap.get? b = some u → h'.get? b = some u) : Inv X pins σ H { s with heap := h', toks := t' } := I.un (Un.kept k) (I.hok.kept k)
/-- a new object laid and tracked -/
theorem Inv.laid {a : Addr} {o : HO} {t' : Nat} (I : Inv X pins σ H s) (k : ∀ b u, s.heap.get? b = some u → h'.get? b = some u) (hp : s.heap.objs.size ≤ a) (new : ObjOk X.prog X.w (upd H a o) h' a o) :
    Inv X pins σ (upd H a o) { s with heap := h', toks := t' } := I.un (Un.laid k hp (I.hok.fresh hp)) (I.hok.laid k hp new)
/-- an object written -/
theorem Inv.write {x e : Addr} {o : HO} {t' : Nat} (I : Inv X pins σ H s) (mu : Mut (H x)) (he : e = x ∨ H e = some (.own x)) (k : ∀ b u, b ≠ e → s.heap.get? b = some u → h'.get? b = some u) (heo : ∃ u, h'.get? e = some u)
    (new : ObjOk X.prog X.w (upd H x o) h' x o) : Inv X pins σ (upd H x o) { s with heap := h', toks := t' } := I.un (Un.write mu he k heo) (I.hok.write mu he k heo new)
/-- forgetting slots, pins -/
theorem Inv.weak {σ' : List (Option V)} (I : Inv X pins σ H s) (hl : σ'.length = σ.length) (w : ∀ (i : Nat) v, σ'[i]? = some (some v) → σ[i]? = some (some v)) : Inv X pins σ' H s :=
  ⟨I.ok, I.os, I.bare, I.base, let ⟨m, hn, hl'⟩ := I.loc; ⟨m, hn, fun i x v e1 e2 e3 => hl' i x v e1 (w i v e2) e3⟩, I.cell, I.free, I.freeC, I.pin, I.hok, hl.trans I.len⟩
theorem Inv.pins_of {pins' : List (Addr × Obj)} (I : Inv X pins σ H s) (h : ∀ p ∈ pins', s.heap.get? p.1 = some p.2 ∧ H p.1 = none ∧ p.1 ≠ X.env.locals ∧ p.1 ∉ X.fs ∧ ∀ v, p.2.data ≠ .cell v) : Inv X pins' σ H s :=
  ⟨I.ok, I.os, I.bare, I.base, I.loc, I.cell, I.free, I.freeC, fun p hp => (List.mem_append.mp hp).elim (fun z => I.pin p (List.mem_append_left _ z)) (h p), I.hok, I.len⟩

theorem nodup_ix {N : List Str} (hN : N.Nodup) {i j : Nat} {x : Str} (a : N[i]? = some x) (b : N[j]? = some x) : i = j := by
  obtain ⟨h1, e1⟩ := List.getElem?_eq_some_iff.mp a
  obtain ⟨h2, e2⟩ := List.getElem?_eq_some_iff.mp b
  exact (List.getElem_inj hN).mp (e1.trans e2.symm)

/-- a name is stored; what changed -/
theorem store_ok2 {M : Model} {A : Around} {E : Value → Shared → Prop} {i : Nat} {x : Str} {v : V} {u : Value} {Q : Unit → Shared → Prop} (I : Inv X pins σ H s) (hN : X.N.Nodup) (hi : X.N[i]? = some x) (hx : Loc X.env.scope x) (r : RelV v u)
    (h : ∀ s', Inv X pins (σ.set i (some v)) H s' → (∃ a, Heap.SameBut a s.heap s'.heap ∧ (a = X.env.locals ∨ X.env.cells.lookup x = some a)) → Q () s') (hf : X.fn x = true ∨ X.env.scope.names.lookup x = some .local := by first | exact .inl rfl | exact .inr rfl | assumption) : wpAny M A (storeName X.env x u) Q E s := by
  obtain ⟨m, hn, hl⟩ := id I.loc
  have hcls : (X.env.scope.kind == .class || (X.env.scope.kind == .module && X.env.locals != X.env.globals)) = false := by rw [I.ok.kind]; rfl
  have hiσ : i < σ.length := by rw [I.len]; exact (List.getElem?_eq_some_iff.mp hi).1
  have cne := I.cne
  have tracked : ∀ {a : Addr} {h' : Heap}, (∃ o, s.heap.get? a = some o ∧ H a = none) → Heap.SameBut a s.heap h' → HOk X.prog X.w H h' := fun {a h'} ha hs b ob e => by
    obtain ⟨_, _, hfree⟩ := ha
    refine (I.hok b ob e).stay (fun c w' hc q => (hs.2 c ?_).trans q) (fun _ q => q) fun _ _ q => q
    rintro rfl
    rcases hc with rfl | hc
    · rw [hfree] at e; cases e
    · rw [hfree] at hc; cases hc
  rcases hx with hk | hk
  · refine wpAny_storeName_local hk hn (fun h' hn' hs => ?_) hcls
    obtain ⟨oL, _, _, hoL, _⟩ := id hn
    refine h _ ⟨I.ok, I.os, I.bare, ⟨fun b o e n hb hx => ?_, fun b o e n hb hx => ?_, I.base.free, fun b o e hx => ?_, I.base.tups, I.base.frzs, I.base.tbls⟩, ⟨_, hn', fun j y v' e1 e2 e3 => ?_⟩, fun y c e => ?_, I.free, I.freeC, fun p hp => ?_, tracked ⟨oL, hoL, I.free⟩ hs, by simpa using I.len⟩ ⟨_, hs, .inl rfl⟩
    · exact (hs.2 b (Nat.ne_of_lt (Nat.lt_of_lt_of_le (Heap.lt_size e) I.ok.above))).trans (I.base.keep b o e n hb hx)
    · obtain ⟨sl, e1⟩ := I.base.slot b o e n hb hx
      exact ⟨sl, (hs.2 b (Nat.ne_of_lt (Nat.lt_of_lt_of_le (Heap.lt_size e) I.ok.above))).trans e1⟩
    · obtain ⟨o', e1⟩ := I.base.there b o e hx
      exact ⟨o', (hs.2 b (Nat.ne_of_lt (Nat.lt_of_lt_of_le (Heap.lt_size e) I.ok.above))).trans e1⟩
    · by_cases hj : j = i
      · subst hj
        rw [hi] at e1; cases e1
        rw [List.getElem?_set_self hiσ] at e2
        cases e2
        exact ⟨u, r, .inl ⟨hk, by simp⟩⟩
      · rw [List.getElem?_set_ne (Ne.symm hj)] at e2
        obtain ⟨u', r', q⟩ := hl j y v' e1 e2 e3
        refine ⟨u', r', ?_⟩
        rcases q with ⟨k, e⟩ | ⟨k, c, e, z⟩
        · refine .inl ⟨k, ?_⟩
          have : y ≠ x := fun e => hj (nodup_ix hN e1 (e ▸ hi))
          simp [this, e]
        · exact .inr ⟨k, c, e, z.sameBut hs (cne y c e)⟩
    · obtain ⟨w', z⟩ := I.cell y c e
      exact ⟨w', z.sameBut hs (cne y c e)⟩
    · obtain ⟨e, n, ne, nf, d⟩ := I.pin p hp
      exact ⟨(hs.2 p.1 ne).trans e, n, ne, nf, d⟩
  · have hfn : X.fn x = true := by
      rcases hf with z | z
      · exact z
      · rw [z] at hk; cases hk
    obtain ⟨c, hc⟩ := I.ok.has x (.inl hk)
    obtain ⟨w', z⟩ := I.cell x c hc
    refine wpAny_storeName_cell I.ok.kind hk hc z (fun h' hc' hs => ?_)
    obtain ⟨oc, hoc, hocd⟩ := id z
    refine h { s with heap := h' } ⟨I.ok, I.os, I.bare, ⟨fun b o e n hb hx => ?_, fun b o e n hb hx => ?_, I.base.free, fun b o e hx => ?_, I.base.tups, I.base.frzs, I.base.tbls⟩, ⟨m, hn.sameBut hs (Ne.symm (cne x c hc)), fun j y v' e1 e2 e3 => ?_⟩, fun y c' e => ?_, I.free, I.freeC, fun p hp => ?_, tracked ⟨oc, hoc, I.freeC x c hc⟩ hs, by simpa using I.len⟩ ⟨c, hs, .inr hc⟩
    · exact (hs.2 b (Nat.ne_of_lt (Nat.lt_of_lt_of_le (Heap.lt_size e) (I.ok.cab x c hfn hc)))).trans (I.base.keep b o e n hb hx)
    · obtain ⟨sl, e1⟩ := I.base.slot b o e n hb hx
      exact ⟨sl, (hs.2 b (Nat.ne_of_lt (Nat.lt_of_lt_of_le (Heap.lt_size e) (I.ok.cab x c hfn hc)))).trans e1⟩
    · obtain ⟨o', e1⟩ := I.base.there b o e hx
      exact ⟨o', (hs.2 b (Nat.ne_of_lt (Nat.lt_of_lt_of_le (Heap.lt_size e) (I.ok.cab x c hfn hc)))).trans e1⟩
    · by_cases hj : j = i
      · subst hj
        rw [hi] at e1; cases e1
        rw [List.getElem?_set_self hiσ] at e2
        cases e2
        exact ⟨u, r, .inr ⟨.inl hk, c, hc, hc'⟩⟩
      · rw [List.getElem?_set_ne (Ne.symm hj)] at e2
        obtain ⟨u', r', q⟩ := hl j y v' e1 e2 e3
        refine ⟨u', r', ?_⟩
        rcases q with q | ⟨k, c', e, z'⟩
        · exact .inl q
        · refine .inr ⟨k, c', e, z'.sameBut hs ?_⟩
          rintro rfl
          exact hj (nodup_ix hN e1 (I.ok.inj _ _ _ e hc ▸ hi))
    · by_cases hcc : c' = c
      · subst hcc; exact ⟨_, hc'⟩
      · obtain ⟨w2, z2⟩ := I.cell y c' e
        exact ⟨w2, z2.sameBut hs hcc⟩
    · obtain ⟨e, n, ne, nf, d⟩ := I.pin p hp
      refine ⟨(hs.2 p.1 ?_).trans e, n, ne, nf, d⟩
      intro q
      rw [q, hoc] at e
      have q' : oc = p.2 := Option.some.inj e
      exact d w' (by rw [← q']; exact hocd)
theorem store_ok {M : Model} {A : Around} {E : Value → Shared → Prop} {i : Nat} {x : Str} {v : V} {u : Value} {Q : Unit → Shared → Prop} (I : Inv X pins σ H s) (hN : X.N.Nodup) (hi : X.N[i]? = some x) (hx : Loc X.env.scope x) (r : RelV v u)
    (h : ∀ s', Inv X pins (σ.set i (some v)) H s' → Q () s') (hf : X.fn x = true ∨ X.env.scope.names.lookup x = some .local := by first | exact .inl rfl | exact .inr rfl | assumption) : wpAny M A (storeName X.env x u) Q E s :=
  store_ok2 I hN hi hx r (fun s' I' _ => h s' I') hf
/-- behind a call or a block, the state as it is -/
theorem Inv.call' {s' : Shared} {ch : List Addr} (I : Inv X pins σ H s) (ho : s'.os = s.os) (u : Un (frs X.stack) ch H H' s.heap s'.heap) (hok : HOk X.prog X.w H' s'.heap) (hg : AllBare s'.gens)
    (hch : ∀ b ∈ ch, (b ∈ X.ex ∨ X.s₀.heap.objs.size ≤ b) ∧ b ≠ X.env.locals ∧ (∀ x c, X.env.cells.lookup x = some c → c ≠ b) ∧ ∀ p ∈ X.pn ++ pins, p.1 ≠ b) : Inv X pins σ H' s' := by
  obtain ⟨h', g', d', t', o'⟩ := s'
  have e : o' = s.os := ho
  subst e
  exact I.call (g' := g') (t' := t') (d' := d') u hok hg hch
end

/-! ### the judgements -/
/-- an exception: its class, its own dict's address (where it has one), the abstract heap behind it -/
abbrev XK := Value → Option Addr → Hp → Prop
abbrev St := List (Option V)
abbrev VK := V → Hp → Prop
/-- an expression's reading; a test's; an argument list's -/
abbrev TE := St → Hp → VK → Prop
abbrev TT := St → Hp → (Bool → Hp → Prop) → Prop
abbrev TA := St → Hp → (List V → Hp → Prop) → Prop
/-- what is wanted behind a statement -/
structure Ends where
  nx : St → Hp → Prop
  rt : VK
  bk : St → Hp → Prop := fun _ _ => False
  ct : St → Hp → Prop := fun _ _ => False
abbrev TS := Ends → St → Hp → Prop

def EP (X : Cx) (pins : List (Addr × Obj)) (σ : St) (Q : VK) (u : Value) (s' : Shared) : Prop := ∃ v H', Inv X pins σ H' s' ∧ RelV v u ∧ Q v H'
def TP (X : Cx) (pins : List (Addr × Obj)) (σ : St) (Q : Bool → Hp → Prop) (b : Bool) (s' : Shared) : Prop := ∃ H', Inv X pins σ H' s' ∧ Q b H'
def AP (X : Cx) (pins : List (Addr × Obj)) (σ : St) (Q : List V → Hp → Prop) (us : List Value) (s' : Shared) : Prop := ∃ vs H', Inv X pins σ H' s' ∧ Vals vs us ∧ Q vs H'
def SP (X : Cx) (pins : List (Addr × Obj)) (D : Ends) (f : Flow) (s' : Shared) : Prop :=
  match f with
  | .next => ∃ σ' H', Inv X pins σ' H' s' ∧ D.nx σ' H'
  | .brk => ∃ σ' H', Inv X pins σ' H' s' ∧ D.bk σ' H'
  | .cont => ∃ σ' H', Inv X pins σ' H' s' ∧ D.ct σ' H'
  | .ret u => ∃ v σ' H', Inv X pins σ' H' s' ∧ RelV v u ∧ D.rt v H'

def PE (X : Cx) (e : Expr) (t : TE) : Prop :=
  ∀ (pins : List (Addr × Obj)) (s : Shared) (σ : St) (H : Hp) (Q : VK), Inv X pins σ H s → t σ H Q → wpAny (model X.prog X.w) X.A (eval e X.env) (EP X pins σ Q) X.xe s
def PT (X : Cx) (e : Expr) (t : TT) : Prop :=
  ∀ (pins : List (Addr × Obj)) (s : Shared) (σ : St) (H : Hp) (Q : Bool → Hp → Prop), Inv X pins σ H s → t σ H Q → wpAny (model X.prog X.w) X.A (isTrue e X.env (eval e X.env)) (TP X pins σ Q) X.xe s
/-- a test whatever its 'whole' is (and, or) -/
def PW (X : Cx) (e : Expr) (t : TT) : Prop :=
  ∀ (whole : Sem Value) (pins : List (Addr × Obj)) (s : Shared) (σ : St) (H : Hp) (Q : Bool → Hp → Prop), Inv X pins σ H s → t σ H Q → wpAny (model X.prog X.w) X.A (isTrue e X.env whole) (TP X pins σ Q) X.xe s
theorem PW.pt {X : Cx} {e : Expr} {t : TT} (h : PW X e t) : PT X e t := h _
/-- an argument list (no star), from the left -/
def PA (X : Cx) (es : List Expr) (t : TA) : Prop :=
  ∀ (pos : Pos) (pins : List (Addr × Obj)) (s : Shared) (σ : St) (H : Hp) (Q : List V → Hp → Prop), Inv X pins σ H s → t σ H Q → wpAny (model X.prog X.w) X.A (spliced (backTo pos (starEach es X.env))) (AP X pins σ Q) X.xe s
def PS (X : Cx) (st : Stmt) (t : TS) : Prop :=
  ∀ (pins : List (Addr × Obj)) (s : Shared) (σ : St) (H : Hp) (D : Ends), Inv X pins σ H s → t D σ H → wpAny (model X.prog X.w) X.A (exec st X.env) (SP X pins D) X.xe s
def PSs (X : Cx) (st : List Stmt) (t : TS) : Prop :=
  ∀ (pins : List (Addr × Obj)) (s : Shared) (σ : St) (H : Hp) (D : Ends), Inv X pins σ H s → t D σ H → wpAny (model X.prog X.w) X.A (execs st X.env) (SP X pins D) X.xe s
/-- weaken the end -/
theorem thn {α : Type} {t : Sem α} {Q Q' : α → Shared → Prop} {M : Model} {A : Around} {E : Value → Shared → Prop} {s : Shared} (h : wpAny M A t Q E s) (hQ : ∀ a s, Q a s → Q' a s) : wpAny M A t Q' E s := wpAny_mono h hQ fun _ _ x => x
end L2

namespace L2
open PySem PySem.Spec PyProof.Rows
section
variable {X : Cx}

/-- two expressions in a row -/
theorem bin {a b : Expr} {ta tb : TE} (ha : PE X a ta) (hb : PE X b tb) {pins : List (Addr × Obj)} {s : Shared} {σ : St} {H : Hp} {R : V → V → Hp → Prop} (I : Inv X pins σ H s) (h : ta σ H fun x H1 => tb σ H1 fun y H2 => R x y H2)
    {α : Type} {Q : α → Shared → Prop} {f : Value → Value → Sem α}
    (hf : ∀ v u s2 x y H2, Inv X pins σ H2 s2 → RelV x v → RelV y u → R x y H2 → wpAny (model X.prog X.w) X.A (f v u) Q X.xe s2) :
    wpAny (model X.prog X.w) X.A (eval a X.env) (fun v s₁ => wpAny (model X.prog X.w) X.A (eval b X.env) (fun u s₂ => wpAny (model X.prog X.w) X.A (f v u) Q X.xe s₂) X.xe s₁) X.xe s := by
  refine thn (ha pins s σ H _ I h) fun v s1 ⟨x, H1, I1, r1, q1⟩ => ?_
  refine thn (hb pins s1 σ H1 _ I1 q1) fun u s2 ⟨y, H2, I2, r2, q2⟩ => ?_
  exact hf v u s2 x y H2 I2 r1 r2 q2

/-! ### names and constants -/
def tVar (i : Nat) : TE := fun σ H Q => ∃ v, σ[i]? = some (some v) ∧ Q v H
def tC (v : V) : TE := fun _ H Q => Q v H
theorem pe_var {i : Nat} {x : Str} {pos : Pos} (hN : X.N[i]? = some x) (hv : Vis X.env.scope x) (hd : (x == ("__debug__" : Str)) = false := by decide) (hcd : (x == ("__classdict__" : Str)) = false := by decide) : PE X (.Name x pos) (tVar i) := by
  intro pins s σ H Q I h
  obtain ⟨v, e, h⟩ := h
  obtain ⟨m, hn, hl⟩ := I.loc
  obtain ⟨u, r, l⟩ := hl i x v hN e hv
  have fin : EP X pins σ Q u s := ⟨v, H, I, r, h⟩
  rcases l with ⟨hk, hm⟩ | ⟨hk, c, hc, hcell⟩
  · exact wpAny_Name (wpAny_loadName_local I.ok.kind hk hn hm fin) hd
  · rcases hk with hk | hk
    · exact wpAny_Name (wpAny_loadName_cell I.ok.kind hk hc hcell fin) hd
    · exact wpAny_Name (wpAny_loadName_free I.ok.kind hk hc hcell fin hcd) hd
theorem pe_int {i j pos} : PE X (.Constant (.int i) j pos) (tC (.int i)) := fun _ _ _ H _ I h => wpAny_Constant_int ⟨.int i, H, I.tok _, ⟨_, rfl⟩, h⟩
theorem pe_bl {b j pos} : PE X (.Constant (.bool b) j pos) (tC (.bl b)) := fun _ _ _ H _ I h => Constant_bool ⟨.bl b, H, I, rfl, h⟩
theorem pe_non {j pos} : PE X (.Constant .none j pos) (tC .non) := fun _ _ _ H _ I h => Constant_none ⟨.non, H, I, rfl, h⟩
theorem pe_str {x j pos} : PE X (.Constant (.str x) j pos) (tC (.str x)) := fun _ _ _ H _ I h => Calls.Constant_str ⟨.str x, H, I.tok _, ⟨_, rfl⟩, h⟩

/-- a global name of the def -/
def Gl (X : Cx) (x : Str) : Prop := X.env.kindOf x = some .globalImplicit
theorem ld_glob {E : Value → Shared → Prop} {pins : List (Addr × Obj)} {s : Shared} {σ : St} {H : Hp} {x : Str} {u : Value} {pos : Pos} {Q : Value → Shared → Prop} (I : Inv X pins σ H s) (hg : Gl X x) (hm : X.mg x = some u) (h : Q u s)
    (hd : (x == ("__debug__" : Str)) = false := by decide) : wpAny (model X.prog X.w) X.A (eval (.Name x pos) X.env) Q E s :=
  Calls.Name_function_global I.ok.kind hg (Calls.loadGlobal_global (by rw [I.ok.glob]; exact I.mod.glob.keeps I.bk) hm h) hd
theorem ld_blt {E : Value → Shared → Prop} {pins : List (Addr × Obj)} {s : Shared} {σ : St} {H : Hp} {x : Str} {u : Value} {pos : Pos} {Q : Value → Shared → Prop} (I : Inv X pins σ H s) (hg : Gl X x) (hm : X.mg x = none) (hv : bootBuiltins x = some u) (h : Q u s)
    (hn : x ≠ "__name__" := by decide) (hd : (x == ("__debug__" : Str)) = false := by decide) : wpAny (model X.prog X.w) X.A (eval (.Name x pos) X.env) Q E s := by
  obtain ⟨mb, h1, h2⟩ := I.mod.blt
  exact Calls.Name_function_global I.ok.kind hg (Calls.loadGlobal_builtin (by rw [I.ok.glob]; exact I.mod.glob.keeps I.bk) hm (by rw [I.ok.blt]; exact h1.keeps I.bk) ((h2 x hn).trans hv) h) hd
/-- a module's constant, a class, a function, as a value -/
theorem pe_glob {x : Str} {v : V} {u : Value} {pos : Pos} (hg : Gl X x) (hm : X.mg x = some u) (r : RelV v u) (hd : (x == ("__debug__" : Str)) = false := by decide) : PE X (.Name x pos) (tC v) :=
  fun _ _ _ H _ I h => ld_glob I hg hm ⟨v, H, I, r, h⟩ hd
theorem pe_bltn {x : Str} {v : V} {u : Value} {pos : Pos} (hg : Gl X x) (hm : X.mg x = none) (hv : bootBuiltins x = some u) (r : RelV v u) (hn : x ≠ "__name__" := by decide) (hd : (x == ("__debug__" : Str)) = false := by decide) : PE X (.Name x pos) (tC v) :=
  fun _ _ _ H _ I h => ld_blt I hg hm hv ⟨v, H, I, r, h⟩ hn hd

/-! ### arithmetic -/
/-- two ints -/
def t2I (ta tb : TE) (k : Int → Int → Hp → Prop) : St → Hp → Prop := fun σ H => ta σ H fun x H1 => tb σ H1 fun y H2 => ∃ i j, x = .int i ∧ y = .int j ∧ k i j H2
def tAdd (ta tb : TE) : TE := fun σ H Q => t2I ta tb (fun i j H2 => Q (.int (i + j)) H2) σ H
def tSub (ta tb : TE) : TE := fun σ H Q => t2I ta tb (fun i j H2 => Q (.int (i - j)) H2) σ H
/-- the left factor below 2^64 -/
def tMul (ta tb : TE) : TE := fun σ H Q => t2I ta tb (fun i j H2 => (-(2 ^ 64) < i ∧ i < 2 ^ 64) ∧ Q (.int (i * j)) H2) σ H
variable {a b : Expr} {ta tb : TE} {pos : Pos}
/-! ### comparisons -/
def PC (X : Cx) (op : CmpOp) (a b : Expr) (t : TE) : Prop :=
  ∀ (pins : List (Addr × Obj)) (s : Shared) (σ : St) (H : Hp) (Q : VK), Inv X pins σ H s → t σ H Q →
    wpAny (model X.prog X.w) X.A (eval a X.env) (fun v s₁ => wpAny (model X.prog X.w) X.A (eval b X.env) (fun u s₂ => wpAny (model X.prog X.w) X.A (compareOp op v u) (EP X pins σ Q) X.xe s₂) X.xe s₁) X.xe s
def tCmp (p : Int → Int → Bool) (ta tb : TE) : TE := fun σ H Q => t2I ta tb (fun i j H2 => Q (.bl (p i j)) H2) σ H
abbrev tLt : TE → TE → TE := tCmp fun i j => decide (i < j)
abbrev tLe : TE → TE → TE := tCmp fun i j => decide (i ≤ j)
abbrev tGt : TE → TE → TE := tCmp fun i j => decide (j < i)
abbrev tGe : TE → TE → TE := tCmp fun i j => decide (j ≤ i)
abbrev tEqI : TE → TE → TE := tCmp fun i j => decide (i = j)
abbrev tNeI : TE → TE → TE := tCmp fun i j => !decide (i = j)
/-- is None -/
def tIsN (ta : TE) : TE := fun σ H Q => ta σ H fun x H1 => Q (.bl (decide (x = .non))) H1
def tNotN (ta : TE) : TE := fun σ H Q => ta σ H fun x H1 => Q (.bl (!decide (x = .non))) H1
/-- a comparison as a value, as a test -/
def tB (t : TE) : TT := fun σ H Q => t σ H fun x H1 => ∃ c, x = .bl c ∧ Q c H1
theorem pt_cmp {op : CmpOp} {t : TE} (h : PC X op a b t) (h1 : behindInMarks op b = false := by first | exact nobehind _ (by decide) (by decide) | rfl) : PT X (.Compare a [op] [b] pos) (tB t) := by
  intro pins s σ H Q I hw
  refine wpAny_isTrue_Compare1 (thn (h pins s σ H _ I hw) fun v s1 h1 => thn h1 fun u s2 h2 => thn h2 fun c s3 ⟨x, H1, I1, r1, q1⟩ => ?_) h1
  obtain ⟨d, rfl, q⟩ := q1
  cases r1
  exact wpAny_truthy_bool ⟨H1, I1, q⟩
/-- an expression whose value is a bool, as a test -/
theorem pt_val {e : Expr} {t : TE} (h : PE X e t) (he : ∀ whole, isTrue e X.env whole = (do let v ← whole; standAt e.pos; holding [v] (truthy v)) := by intro _; rfl) : PT X e (tB t) := by
  intro pins s σ H Q I hw
  refine isTrue_plain (thn (h pins s σ H _ I hw) fun v s1 ⟨x, H1, I1, r1, q1⟩ => ?_) (he _)
  obtain ⟨d, rfl, q⟩ := q1
  cases r1
  exact wpAny_truthy_bool ⟨H1, I1, q⟩

/-! ### and, or, not -/
variable {tA tB' : TT} {rest : List Expr}
def tAnd (t u : TT) : TT := fun σ H Q => t σ H fun c H1 => if c = true then u σ H1 Q else Q false H1
def tOr (t u : TT) : TT := fun σ H Q => t σ H fun c H1 => if c = true then Q true H1 else u σ H1 Q
def tNot (t : TT) : TT := fun σ H Q => t σ H fun c H1 => Q (!c) H1
theorem pw_and1 (ha : PT X a tA) : PW X (.BoolOp .And [a] pos) tA := by
  intro wh pins s σ H Q I h
  refine isTrue_and (thn (ha pins s σ H Q I h) fun c s1 e => ?_)
  cases c with
  | true => exact isTrue_and_nil e
  | false => exact e
theorem pw_or1 (ha : PT X a tA) : PW X (.BoolOp .Or [a] pos) tA := by
  intro wh pins s σ H Q I h
  refine isTrue_or (thn (ha pins s σ H Q I h) fun c s1 e => ?_)
  cases c with
  | false => exact isTrue_or_nil e
  | true => exact e
theorem pw_and (ha : PT X a tA) (hb : PW X (.BoolOp .And (b :: rest) pos) tB') : PW X (.BoolOp .And (a :: b :: rest) pos) (tAnd tA tB') := by
  intro wh pins s σ H Q I h
  refine isTrue_and (thn (ha pins s σ H _ I h) fun c s1 ⟨H1, I1, q1⟩ => ?_)
  cases c with
  | true => exact hb wh pins s1 σ H1 Q I1 q1
  | false => exact ⟨H1, I1, q1⟩
theorem pw_or (ha : PT X a tA) (hb : PW X (.BoolOp .Or (b :: rest) pos) tB') : PW X (.BoolOp .Or (a :: b :: rest) pos) (tOr tA tB') := by
  intro wh pins s σ H Q I h
  refine isTrue_or (thn (ha pins s σ H _ I h) fun c s1 ⟨H1, I1, q1⟩ => ?_)
  cases c with
  | true => exact ⟨H1, I1, q1⟩
  | false => exact hb wh pins s1 σ H1 Q I1 q1
theorem pt_not (ha : PT X a tA) : PT X (.UnaryOp .Not a pos) (tNot tA) := by
  intro pins s σ H Q I h
  exact isTrue_not (ha pins s σ H (fun c H1 => Q (!c) H1) I h)
/-- .. as values (bools) -/
def tAndV (ta tb : TE) : TE := fun σ H Q => ta σ H fun x H1 => ∃ c, x = .bl c ∧ if c = true then tb σ H1 Q else Q (.bl false) H1
def tOrV (ta tb : TE) : TE := fun σ H Q => ta σ H fun x H1 => ∃ c, x = .bl c ∧ if c = true then Q (.bl true) H1 else tb σ H1 Q
def tNotV (ta : TE) : TE := fun σ H Q => ta σ H fun x H1 => ∃ c, x = .bl c ∧ Q (.bl (!c)) H1
theorem pe_one {op} {t : TE} (h : PE X a t) : PE X (.BoolOp op [a] pos) t := fun pins s σ H Q I hw => BoolOp_one (h pins s σ H Q I hw)
theorem pe_and (ha : PE X a ta) (hb : PE X (.BoolOp .And (b :: rest) pos) tb) : PE X (.BoolOp .And (a :: b :: rest) pos) (tAndV ta tb) := by
  intro pins s σ H Q I h
  refine BoolOp_and (thn (ha pins s σ H _ I h) fun v s1 ⟨x, H1, I1, r1, q1⟩ => ?_)
  obtain ⟨c, rfl, q1⟩ := q1
  cases r1
  refine wpAny_truthy_bool ?_
  cases c with
  | true => exact hb pins s1 σ H1 Q I1 q1
  | false => exact ⟨.bl false, H1, I1, rfl, q1⟩
/-- a if t else b -/
def tIf (t : TT) (ta tb : TE) : TE := fun σ H Q => t σ H fun c H1 => if c = true then ta σ H1 Q else tb σ H1 Q
end
end L2

namespace L2
open PySem PySem.Spec PyProof.Rows

/-! ### a list, a tuple that is read: tracked, frozen, or an object of the module -/
def SqL (K : PySem.W.Frag) (H : Hp) (a : Addr) (xs : List V) : Prop :=
  Rd H a (.lst xs) ∨
    ∃ (o : Obj) (its : Array Value) (n : Nat), K.lookup a = some o ∧ o.cls = .type "list" ∧ o.dict = none ∧ o.data = .seq its n ∧ its.size ≤ sizeLine ∧ Vals xs its.toList
def SqT (K : PySem.W.Frag) (H : Hp) (a : Addr) (xs : List V) : Prop :=
  Rd H a (.tup xs) ∨
    ∃ (o : Obj) (its : Array Value) (n : Nat), K.lookup a = some o ∧ o.cls = .type "tuple" ∧ o.data = .seq its n ∧ its.size ≤ sizeLine ∧ Vals xs its.toList
def absV : Value → Option V
  | .none => some .non
  | .bool b => some (.bl b)
  | .int i _ => some (.int i)
  | .str x _ => some (.str x)
  | .bytes b _ => some (.byt b)
  | .float b _ => some (.flt b)
  | .ref a => some (.ref a)
  | .type n => some (.ty n)
  | _ => none
theorem RelV.abs {x : V} {u : Value} (r : RelV x u) : absV u = some x := by
  cases x with
  | non => cases r; rfl
  | bl _ => cases r; rfl
  | int _ => obtain ⟨t, rfl⟩ := r; rfl
  | str _ => obtain ⟨t, rfl⟩ := r; rfl
  | byt _ => obtain ⟨t, rfl⟩ := r; rfl
  | flt _ => obtain ⟨t, rfl⟩ := r; rfl
  | ref _ => cases r; rfl
  | ty _ => cases r; rfl
theorem RelV.inj {x y : V} {u : Value} (r : RelV x u) (q : RelV y u) : x = y := Option.some.inj (r.abs.symm.trans q.abs)
theorem Vals.inj : ∀ {xs ys : List V} {us : List Value}, Vals xs us → Vals ys us → xs = ys
  | _, _, _, .nil, .nil => rfl
  | _, _, _, .cons r t, .cons r' t' => by rw [r.inj r', Vals.inj t t']
section
variable {X : Cx} {pins : List (Addr × Obj)} {σ : St} {H : Hp} {s : Shared} {a : Addr} {xs ys : List V}
theorem SqL.of {K : PySem.W.Frag} (h : H a = some (.lst xs)) : SqL K H a xs := .inl (.inl h)
theorem SqT.of {K : PySem.W.Frag} (h : H a = some (.tup xs)) : SqT K H a xs := .inl (.inl h)
theorem Inv.list (I : Inv X pins σ H s) (h : SqL X.K H a xs) : ∃ its : List Value, Vals xs its ∧ PlainL s.heap a its.toArray ∧ xs.length ≤ sizeLine := by
  rcases h with h | ⟨o, its, n, hk, hc, hd, hs, hz, r⟩
  · obtain ⟨z, its, n, r, e⟩ := h.ok I.hok
    exact ⟨its, r, ⟨_, n, e, rfl, rfl, rfl⟩, z⟩
  · refine ⟨its.toList, r, ⟨o, n, I.kIn a o hk, hc, hd, by simpa using hs⟩, ?_⟩
    have e := r.length
    simp only [Array.length_toList] at e
    omega
theorem Inv.tuple (I : Inv X pins σ H s) (h : SqT X.K H a xs) : ∃ its : List Value, Vals xs its ∧ IsTup s.heap a its.toArray ∧ xs.length ≤ sizeLine := by
  rcases h with h | ⟨o, its, n, hk, hc, hs, hz, r⟩
  · obtain ⟨z, its, r, p⟩ := h.ok I.hok
    exact ⟨its, r, p, z⟩
  · refine ⟨its.toList, r, ⟨o, I.kIn a o hk, hc, n, by simpa using hs⟩, ?_⟩
    have e := r.length
    simp only [Array.length_toList] at e
    omega
theorem Inv.list_inj (I : Inv X pins σ H s) (h : SqL X.K H a xs) (h' : SqL X.K H a ys) : xs = ys := by
  obtain ⟨its, r, ⟨o, n, e, _, _, d⟩, _⟩ := I.list h
  obtain ⟨its', r', ⟨o', n', e', _, _, d'⟩, _⟩ := I.list h'
  rw [e] at e'; cases e'
  rw [d] at d'
  injection d' with d1 _
  have : its = its' := by simpa using congrArg Array.toList d1
  subst this
  exact r.inj r'
theorem Inv.tuple_inj (I : Inv X pins σ H s) (h : SqT X.K H a xs) (h' : SqT X.K H a ys) : xs = ys := by
  obtain ⟨its, r, ⟨o, e, _, n, d⟩, _⟩ := I.tuple h
  obtain ⟨its', r', ⟨o', e', _, n', d'⟩, _⟩ := I.tuple h'
  rw [e] at e'; cases e'
  rw [d] at d'
  injection d' with d1 _
  have : its = its' := by simpa using congrArg Array.toList d1
  subst this
  exact r.inj r'
end

/-! ### another wish about exceptions -/
abbrev Cx.wish (X : Cx) (E : Value → Shared → Prop) : Cx := { X with xe := E }
/-- no exception leaves -/
abbrev Cx.nox (X : Cx) : Cx := X.wish fun _ _ => False
theorem Cx.Ok.wish {X : Cx} (ok : X.Ok) (E : Value → Shared → Prop) : (X.wish E).Ok :=
  ⟨ok.mod, ok.kind, ok.glob, ok.blt, ok.above, ok.inj, ok.has, ok.cab, ok.hd, ok.frames, ok.stk, ok.exf, ok.bs, ok.bsz, ok.noex, ok.exfs, ok.funs, ok.frf⟩
theorem Cx.Ok.unwish {X : Cx} {E : Value → Shared → Prop} (ok : (X.wish E).Ok) : X.Ok :=
  ⟨ok.mod, ok.kind, ok.glob, ok.blt, ok.above, ok.inj, ok.has, ok.cab, ok.hd, ok.frames, ok.stk, ok.exf, ok.bs, ok.bsz, ok.noex, ok.exfs, ok.funs, ok.frf⟩
section
variable {X : Cx} {pins : List (Addr × Obj)} {σ : St} {H : Hp} {s : Shared} {E : Value → Shared → Prop}
theorem Inv.wish (I : Inv X pins σ H s) (E : Value → Shared → Prop) : Inv (X.wish E) pins σ H s := ⟨I.ok.wish E, I.os, I.bare, I.base, I.loc, I.cell, I.free, I.freeC, I.pin, I.hok, I.len⟩
theorem Inv.unwish (I : Inv (X.wish E) pins σ H s) : Inv X pins σ H s := ⟨I.ok.unwish, I.os, I.bare, I.base, I.loc, I.cell, I.free, I.freeC, I.pin, I.hok, I.len⟩
theorem SP.unwish {D : Ends} {f : Flow} {s' : Shared} (h : SP (X.wish E) pins D f s') : SP X pins D f s' := by
  cases f with
  | next => obtain ⟨σ', H', I, q⟩ := h; exact ⟨σ', H', I.unwish, q⟩
  | brk => obtain ⟨σ', H', I, q⟩ := h; exact ⟨σ', H', I.unwish, q⟩
  | cont => obtain ⟨σ', H', I, q⟩ := h; exact ⟨σ', H', I.unwish, q⟩
  | ret u => obtain ⟨v, σ', H', I, r, q⟩ := h; exact ⟨v, σ', H', I.unwish, r, q⟩
theorem PSs.nox {st : List Stmt} {t : TS} (h : PSs X.nox st t) : PSs X st t := fun pins s σ H D I hw =>
  wpAny_mono (h pins s σ H D (I.wish _) hw) (fun _ _ q => q.unwish) fun _ _ z => False.elim z
end

/-! ### blocks and small statements -/
section
variable {X : Cx} {st : Stmt} {rest : List Stmt} {t u : TS} {e : Expr} {te : TE} {pos : Pos}
def tNext : TS := fun D σ H => D.nx σ H
def tSeq (t u : TS) : TS := fun D σ H => t { D with nx := u D } σ H
theorem pss_nil : PSs X [] tNext := fun _ _ σ H _ I h => wpAny_execs_nil ⟨σ, H, I, h⟩
theorem pss_cons (h1 : PS X st t) (h2 : PSs X rest u) : PSs X (st :: rest) (tSeq t u) := by
  intro pins s σ H D I h
  refine wpAny_execs_cons (thn (h1 pins s σ H { D with nx := u D } I h) fun f s1 q => ?_)
  cases f with
  | next =>
    obtain ⟨σ', H', I', q⟩ := q
    exact h2 pins s1 σ' H' D I' q
  | ret v => exact q
  | brk => exact q
  | cont => exact q
theorem pss_one (h1 : PS X st t) : PSs X [st] t := by
  intro pins s σ H D I h
  refine wpAny_execs_cons (thn (h1 pins s σ H D I h) fun f s1 q => ?_)
  cases f with
  | next => exact wpAny_execs_nil q
  | ret v => exact q
  | brk => exact q
  | cont => exact q
def tBreak : TS := fun D σ H => D.bk σ H
def tCont : TS := fun D σ H => D.ct σ H
/-- in a def's body nothing is shown -/
theorem Inv.quiet {pins : List (Addr × Obj)} {σ : St} {H : Hp} {s : Shared} (I : Inv X pins σ H s) : interactive X.env = false := by simp [interactive, I.ok.kind]
/-- an expression whose value is dropped -/
def tDrop (te : TE) : TS := fun D σ H => te σ H fun _ H1 => D.nx σ H1
theorem ps_expr (he : PE X e te) (hs : swapsWith e none pos.line X.env = pure false := by rfl) : PS X (.Expr e pos) (tDrop te) := by
  intro pins s σ H D I h
  exact wpAny_Expr_any (thn (he pins s σ H _ I h) fun v s1 ⟨x, H1, I1, r1, q1⟩ => ⟨σ, H1, I1, q1⟩) I.quiet hs
def tRet (te : TE) : TS := fun D σ H => te σ H D.rt
theorem ps_ret (he : PE X e te) : PS X (.Return (some e) pos) (tRet te) := by
  intro pins s σ H D I h
  exact wpAny_Return_some (thn (he pins s σ H _ I h) fun v s1 ⟨x, H1, I1, r1, q1⟩ => ⟨x, σ, H1, I1, r1, q1⟩)
def tRetN : TS := fun D _ H => D.rt .non H
def tIfS (c : TT) (t u : TS) : TS := fun D σ H => c σ H fun b H1 => if b = true then t D σ H1 else u D σ H1
theorem ps_if {c : Expr} {a b : List Stmt} {tc : TT} (hc : PT X c tc) (ha : PSs X a t) (hb : PSs X b u) : PS X (.If c a b pos) (tIfS tc t u) := by
  intro pins s σ H D I h
  refine wpAny_If (thn (hc pins s σ H _ I h) fun d s1 ⟨H1, I1, q1⟩ => ?_)
  cases d with
  | true => exact ha pins s1 σ H1 D I1 q1
  | false => exact hb pins s1 σ H1 D I1 q1
/-- code that the proof never comes to -/
def tNever : TS := fun _ _ _ => False
end

/-! ### targets -/
abbrev TG := V → St → Hp → (St → Hp → Prop) → Prop
abbrev TGs := List V → St → Hp → (St → Hp → Prop) → Prop
def PG (X : Cx) (target : Expr) (t : TG) : Prop :=
  ∀ (pins : List (Addr × Obj)) (s : Shared) (σ : St) (H : Hp) (v : V) (u : Value) (Q : St → Hp → Prop), Inv X pins σ H s → RelV v u → t v σ H Q →
    wpAny (model X.prog X.w) X.A (assign target X.env u) (fun _ s' => ∃ σ' H', Inv X pins σ' H' s' ∧ Q σ' H') X.xe s
/-- several targets, one after another -/
def PGs (X : Cx) (ts : List Expr) (t : TGs) : Prop :=
  ∀ (pins : List (Addr × Obj)) (s : Shared) (σ : St) (H : Hp) (vs : List V) (us : List Value) (Q : St → Hp → Prop), Inv X pins σ H s → Vals vs us → t vs σ H Q →
    wpAny (model X.prog X.w) X.A (assignInOrder ((assignEach ts X.env).map (·.2)) us) (fun _ s' => ∃ σ' H', Inv X pins σ' H' s' ∧ Q σ' H') X.xe s
/-- o[i] = v, by values -/
abbrev TSet := V → V → V → Hp → (Hp → Prop) → Prop
def PSet (X : Cx) (t : TSet) : Prop :=
  ∀ (pins : List (Addr × Obj)) (s : Shared) (σ : St) (H : Hp) (o i v : V) (ov iv u : Value) (Q : Hp → Prop), Inv X pins σ H s → RelV o ov → RelV i iv → RelV v u → t o i v H Q →
    wpAny (model X.prog X.w) X.A (setItem ov iv u) (fun _ s' => ∃ H', Inv X pins σ H' s' ∧ Q H') X.xe s
/-- a op= b, by values -/
abbrev TIp := V → V → Hp → VK → Prop
def PIp (X : Cx) (op : Operator) (t : TIp) : Prop :=
  ∀ (pins : List (Addr × Obj)) (s : Shared) (σ : St) (H : Hp) (x y : V) (v u : Value) (Q : VK), Inv X pins σ H s → RelV x v → RelV y u → t x y H Q →
    wpAny (model X.prog X.w) X.A (inplaceOp op v u) (EP X pins σ Q) X.xe s
section
variable {X : Cx} {pos : Pos}
def gName (i : Nat) : TG := fun v σ H Q => Q (σ.set i (some v)) H
theorem pg_name {i : Nat} {x : Str} (hN : X.N.Nodup) (hi : X.N[i]? = some x) (hx : Loc X.env.scope x) (hf : X.fn x = true ∨ X.env.scope.names.lookup x = some .local := by first | exact .inl rfl | exact .inr rfl | assumption) : PG X (.Name x pos) (gName i) := by
  intro pins s σ H v u Q I r h
  exact wpAny_assign_Name (store_ok I hN hi hx r (fun s' I' => ⟨_, H, I', h⟩) hf)
def gNil : TGs := fun vs σ H Q => vs = [] ∧ Q σ H
def gCons (t : TG) (u : TGs) : TGs := fun vs σ H Q => ∃ v r, vs = v :: r ∧ t v σ H fun σ' H' => u r σ' H' Q
theorem pgs_nil : PGs X [] gNil := by
  intro pins s σ H vs us Q I r h
  obtain ⟨e, h⟩ := h
  subst e
  cases r
  exact assignInOrder_nil ⟨σ, H, I, h⟩
theorem pgs_cons {e : Expr} {es : List Expr} {t : TG} {u : TGs} (h1 : PG X e t) (h2 : PGs X es u)
    (hs : (assignEach (e :: es) X.env).map (·.2) = assign e X.env :: (assignEach es X.env).map (·.2) := by rfl) : PGs X (e :: es) (gCons t u) := by
  intro pins s σ H vs us Q I r h
  obtain ⟨v, vr, e1, h⟩ := h
  subst e1
  cases r with
  | cons r rr =>
    rw [hs]
    refine assignInOrder_cons (thn (h1 pins s σ H _ _ _ I r h) fun _ s1 ⟨σ1, H1, I1, q1⟩ => ?_)
    exact h2 pins s1 σ1 H1 _ _ Q I1 rr q1
/-- (a, b, ..) = a tuple of that length -/
def gTup (K : PySem.W.Frag) (n : Nat) (t : TGs) : TG := fun v σ H Q => ∃ a xs, v = .ref a ∧ SqT K H a xs ∧ xs.length = n ∧ t xs σ H Q
theorem pg_tup {es : List Expr} {k : Nat} {t : TGs} {n : Nat} (hc : X.calm = true) (h : PGs X es t)
    (hn : (assignEach es X.env).length = n := by rfl) (hst : (assignEach es X.env).findIdx? (·.1) = none := by rfl) : PG X (.Tuple es k pos) (gTup X.K n t) := by
  intro pins s σ H v u Q I r hw
  obtain ⟨a, xs, e1, hq, hl, hw⟩ := hw
  subst e1
  cases r
  obtain ⟨its, rv, ht, hz⟩ := I.tuple hq
  refine assign_Tuple_tuple (I.ok.hd hc) ht (by simp [hn, ← hl, rv.length]) hst fun h' hx => ?_
  have I1 : Inv X pins σ H { s with heap := h' } := I.kept (t' := s.toks) fun b o e => hx b o (Nat.ne_of_lt (Heap.lt_size e)) e
  exact h pins _ σ H xs _ Q I1 (by simpa using rv) hw
/-- o[i] = .. -/
def gSub (to ti : TE) (t : TSet) : TG := fun v σ H Q => to σ H fun o H1 => ti σ H1 fun i H2 => t o i v H2 fun H3 => Q σ H3
theorem pg_sub {o i : Expr} {to ti : TE} {t : TSet} (ho : PE X o to) (hi : PE X i ti) (hs : PSet X t)
    (ha : ∀ v, assign (.Subscript o i pos) X.env v = (do
      let ov ← holding [v] (eval o X.env)
      let iv ← holding [v, ov] (eval i X.env)
      standAt pos
      holding [v, ov, iv] (setItem ov iv v)
      release [v, ov, iv] []) := by intro _; rfl) : PG X (.Subscript o i pos) (gSub to ti t) := by
  intro pins s σ H v u Q I r h
  rw [ha]
  refine wpAny_bind (wpAny_holding (thn (ho pins s σ H _ I h) fun ov s1 ⟨x, H1, I1, r1, q1⟩ => ?_))
  refine wpAny_bind (wpAny_holding (thn (hi pins s1 σ H1 _ I1 q1) fun iv s2 ⟨y, H2, I2, r2, q2⟩ => ?_))
  refine wpAny_bind (wpAny_standAt (wpAny_bind (wpAny_holding (thn (hs pins s2 σ H2 x y v ov iv u _ I2 r1 r2 r q2) fun _ s3 ⟨H3, I3, q3⟩ => ?_))))
  exact wpAny_release ⟨σ, H3, I3, q3⟩
/-- target = value -/
def tAsg (te : TE) (g : TG) : TS := fun D σ H => te σ H fun x H1 => g x σ H1 D.nx
theorem ps_asg {tg e : Expr} {te : TE} {g : TG} (he : PE X e te) (hg : PG X tg g) (hs : swapsWithSole [tg] e pos.line X.env = pure false := by rfl) (hw : swappedStores [tg] e X.env = pure none := by rfl)
    (h1 : (assignEach [tg] X.env).map (·.2) = [assign tg X.env] := by rfl) : PS X (.Assign [tg] e pos) (tAsg te g) := by
  intro pins s σ H D I h
  refine wpAny_Assign_stores (thn (he pins s σ H _ I h) fun v s1 ⟨x, H1, I1, r1, q1⟩ => ?_) hs hw
  rw [h1]
  exact thn (hg pins s1 σ H1 x v _ I1 r1 q1) fun _ s2 q => q
/-- name = value -/
theorem ps_set {i : Nat} {x : Str} {e : Expr} {te : TE} {pos' : Pos} (hN : X.N.Nodup) (hi : X.N[i]? = some x) (hx : Loc X.env.scope x) (he : PE X e te) (hs : swapsWith e (some (.Name x pos')) pos.line X.env = pure false := by rfl) (hf : X.fn x = true ∨ X.env.scope.names.lookup x = some .local := by first | exact .inl rfl | exact .inr rfl | assumption) :
    PS X (.Assign [.Name x pos'] e pos) (tAsg te (gName i)) := by
  intro pins s σ H D I h
  refine wpAny_Assign_Name (thn (he pins s σ H _ I h) fun v s1 ⟨y, H1, I1, r1, q1⟩ => ?_) hs
  exact store_ok I1 hN hi hx r1 (fun s2 I2 => ⟨_, H1, I2, q1⟩) hf
/-- a, b = x, y with plain local names: stored from the right; the pair itself is not tracked (the opening rows as in PyProof/Rows/TupAssign.lean:23) -/
def tPar (i j : Nat) (ta : TA) : TS := fun D σ H => ta σ H fun vs H1 => ∃ v w, vs = [v, w] ∧ D.nx ((σ.set i (some v)).set j (some w)) H1
theorem ps_par {i j : Nat} {x y : Str} {a b : Expr} {ta : TA} {px py pt : Pos} {kt k2 pt2} (hc : X.calm = true) (hN : X.N.Nodup) (hi : X.N[i]? = some x) (hj : X.N[j]? = some y) (hij : i ≠ j)
    (hx : X.env.scope.names.lookup x = some .local) (hy : X.env.scope.names.lookup y = some .local) (ha : PA X [a, b] ta)
    (hw : swappedStores [.Tuple [.Name x px, .Name y py] kt pt] (.Tuple [a, b] k2 pt2) X.env = pure (some [x, y]))
    (hs : swapsWithSole [.Tuple [.Name x px, .Name y py] kt pt] (.Tuple [a, b] k2 pt2) pos.line X.env = pure false := by rfl) :
    PS X (.Assign [.Tuple [.Name x px, .Name y py] kt pt] (.Tuple [a, b] k2 pt2) pos) (tPar i j ta) := by
  intro pins s σ H D I h
  rw [exec_Assign_arm]
  refine wpAny_bind (wpAny_standAt ?_)
  rw [hs]
  refine wpAny_bind (wpAny_pure ?_)
  rw [if_neg (by decide)]
  refine wpAny_bind (Tuple_ (thn (ha _ pins s σ H _ I h) fun us s1 ⟨vs, H1, I1, r1, q1⟩ => ?_))
  obtain ⟨v, w, e1, q1⟩ := q1
  subst e1
  obtain ⟨u1, u2, rfl, rv, rw'⟩ : ∃ u1 u2, us = [u1, u2] ∧ RelV v u1 ∧ RelV w u2 := by
    cases r1 with
    | cons p q =>
      cases q with
      | cons p' q' =>
        cases q'
        exact ⟨_, _, rfl, p, p'⟩
  refine wpAny_newObj_type ?_ (by show 2 ≤ sizeLine; decide)
  have I2 : Inv X pins σ H1 { s1 with heap := s1.heap.push { cls := .type "tuple", data := .seq [u1, u2].toArray } } := I1.kept (t' := s1.toks) fun b o e => Heap.get?_push_of_some _ e
  rw [hw]
  refine wpAny_bind (wpAny_pure ?_)
  show wpAny (model X.prog X.w) X.A (do rule "assign.swapped-stores"; let items ← unpackItems (.ref s1.heap.objs.size) 2 none; assignInOrder [fun v => bindName X.env y v, fun v => bindName X.env x v] items.reverse; pure Flow.next) _ _ _
  refine wpAny_bind (wpAny_rule (wpAny_bind (unpackItems_tuple (items := #[u1, u2]) (I.ok.hd hc) (IsTup.new s1.heap _) fun h' hx' => ?_)))
  have I3 := I2.kept (h' := h') (t' := s1.toks) fun b o e => hx' b o (Nat.ne_of_lt (Heap.lt_size e)) e
  show wpAny _ _ (assignInOrder [fun v => bindName X.env y v, fun v => bindName X.env x v] [u2, u1] >>= fun _ => pure Flow.next) _ _ _
  refine wpAny_bind (assignInOrder_cons (wpAny_bindName (store_ok I3 hN hj (.inl hy) rw' (fun s2 I4 => ?_) (.inr hy))))
  refine assignInOrder_cons (wpAny_bindName (store_ok I4 hN hi (.inl hx) rv (fun s3 I5 => assignInOrder_nil (wpAny_pure ?_)) (.inr hx)))
  rw [List.set_comm _ _ (Ne.symm hij)] at I5
  exact ⟨_, H1, I5, q1⟩
/-- name op= e -/
def tAug (i : Nat) (te : TE) (ti : TIp) : TS := fun D σ H => ∃ x, σ[i]? = some (some x) ∧ te σ H fun y H1 => ti x y H1 fun z H2 => D.nx (σ.set i (some z)) H2
/-- o[i] op= e -/
def tAugS (to ti te : TE) (tget : V → V → Hp → VK → Prop) (tip : TIp) (tset : TSet) : TS := fun D σ H => to σ H fun o H1 => ti σ H1 fun i H2 => tget o i H2 fun x H3 => te σ H3 fun y H4 => tip x y H4 fun z H5 => tset o i z H5 fun H6 => D.nx σ H6
/-- o[i], by values -/
def PGet (X : Cx) (t : V → V → Hp → VK → Prop) : Prop :=
  ∀ (pins : List (Addr × Obj)) (s : Shared) (σ : St) (H : Hp) (o i : V) (ov iv : Value) (Q : VK), Inv X pins σ H s → RelV o ov → RelV i iv → t o i H Q →
    wpAny (model X.prog X.w) X.A (getItem ov iv) (EP X pins σ Q) X.xe s
/-- ints -/
def ipI (f : Int → Int → Int) : TIp := fun x y H Q => ∃ i j, x = .int i ∧ y = .int j ∧ Q (.int (f i j)) H
end

/-! ### while -/
section
variable {X : Cx} {pos : Pos}
/-- the invariant W with its measure -/
def tWhile (c : TT) (tb : TS) : TS := fun D σ H => ∃ W : Nat → St → Hp → Prop, (∃ m, W m σ H) ∧ ∀ m σ H, W m σ H →
  c σ H fun b H1 => if b = true then ∃ N : St → Hp → Prop, (∀ σ' H', N σ' H' → ∃ m', m' < m ∧ W m' σ' H') ∧ tb { D with nx := N, ct := N, bk := D.nx } σ H1 else D.nx σ H1
theorem ps_while {c : Expr} {body : List Stmt} {tc : TT} {tb : TS} (hp : PassesOwn (model X.prog X.w) X.A X.env X.xe) (hc : PT X c tc) (hb : PSs X body tb) : PS X (.While c body [] pos) (tWhile tc tb) := by
  intro pins s σ H D I h
  obtain ⟨W, ⟨m0, w0⟩, turn⟩ := h
  refine wpAny_While (codeAny_whileLoop (fun n s' => ∃ σ' H', Inv X pins σ' H' s' ∧ W n σ' H') ?_ m0 ⟨σ, H, I, w0⟩)
  rintro n s1 ⟨σ1, H1, I1, w1⟩
  refine wpAny_passesOwn hp (thn (hc pins s1 σ1 H1 _ I1 (turn n σ1 H1 w1)) fun b s2 ⟨H2, I2, q2⟩ => ?_)
  cases b with
  | true =>
    obtain ⟨N, hN, q2⟩ := q2
    rw [if_pos rfl]
    refine wpAny_passesOwn hp (thn (hb pins s2 σ1 H2 _ I2 q2) fun f s3 q3 => ?_)
    cases f with
    | next =>
      obtain ⟨σ3, H3, I3, n3⟩ := q3
      obtain ⟨m', hm, w3⟩ := hN σ3 H3 n3
      exact ⟨m', hm, σ3, H3, I3, w3⟩
    | cont =>
      obtain ⟨σ3, H3, I3, n3⟩ := q3
      obtain ⟨m', hm, w3⟩ := hN σ3 H3 n3
      exact ⟨m', hm, σ3, H3, I3, w3⟩
    | brk => exact q3
    | ret v => exact q3
  | false =>
    rw [if_neg Bool.false_ne_true]
    exact wpAny_execs_nil ⟨σ1, H2, I2, q2⟩
end

/-! ### what a loop or a comprehension walks -/
/-- at turn i: it yields x (the heap may grow), or it stops -/
structure It where
  go : Nat → Hp → Prop
  yld : Nat → Hp → V → Hp → Prop
  stop : Nat → Hp → Prop
/-- the iterator's own objects may turn: they are not the frame's, not pinned, younger than the entry (or a comprehension's own) -/
def FpOk (X : Cx) (pins : List (Addr × Obj)) (H : Hp) (b : Addr) : Prop :=
  H b = none ∧ b ≠ X.env.locals ∧ b ∉ X.fs ∧ (b ∈ X.ex ∨ X.s₀.heap.objs.size ≤ b) ∧ (∀ x c, X.env.cells.lookup x = some c → c ≠ b) ∧ ∀ p ∈ X.pn ++ pins, p.1 ≠ b
theorem Inv.fpOk {X : Cx} {pins : List (Addr × Obj)} {σ : St} {H H' : Hp} {s : Shared} {b : Addr} (I : Inv X pins σ H s) (hb : s.heap.objs.size ≤ b) (hn : H' b = none) : FpOk X pins H' b := by
  refine ⟨hn, Nat.ne_of_gt (Nat.lt_of_lt_of_le I.lt hb), I.nofs hb, .inr (Nat.le_trans I.sz hb), fun x c e z => ?_, fun p hp z => ?_⟩
  · obtain ⟨v, q⟩ := I.cell x c e
    exact absurd (Nat.lt_of_lt_of_le q.lt (by rw [z]; exact hb)) (Nat.lt_irrefl _)
  · exact absurd (Nat.lt_of_lt_of_le (Heap.lt_size (I.pin p hp).1) (by rw [z]; exact hb)) (Nat.lt_irrefl _)
structure Turn (P : Program) (w : World) (K : PySem.W.Frag) (tg : Expr) (J : It) (fp : List Addr) (it : Addr) (tn : Nat → Heap → Prop) : Prop where
  mem : it ∈ fp
  obj : ∀ i h, tn i h → ∀ b ∈ fp, ∃ o, h.get? b = some o ∧ ∀ v, o.data ≠ .cell v
  keep : ∀ i h h', tn i h → (∀ b ∈ fp, ∀ o, h.get? b = some o → h'.get? b = some o) → tn i h'
  item : ∀ (X : Cx), X.prog = P → X.w = w → X.K = K → X.calm = true → ∀ (i : Nat) (pins : List (Addr × Obj)) (s : Shared) (σ : St) (H : Hp) (E : Value → Shared → Prop), Inv X pins σ H s → (∀ b ∈ fp, FpOk X pins H b) → tn i s.heap → J.go i H →
    wpAny (model P w) X.A (pyNext (.ref it)) (fun r s1 => ∃ u, r = some u ∧
      wpAny (model P w) X.A (letOwnedTupleGo tg (.ref it) u) (fun _ s2 => ∃ x H', Inv X pins σ H' s2 ∧ RelV x u ∧ J.yld i H x H' ∧ tn (i + 1) s2.heap ∧ ∀ b ∈ fp, H' b = none) E s1) E s
  done : ∀ (X : Cx), X.prog = P → X.w = w → X.K = K → X.calm = true → ∀ (i : Nat) (pins : List (Addr × Obj)) (s : Shared) (σ : St) (H : Hp) (E : Value → Shared → Prop), Inv X pins σ H s → (∀ b ∈ fp, FpOk X pins H b) → tn i s.heap → J.stop i H →
    wpAny (model P w) X.A (pyNext (.ref it)) (fun r s1 => r = none ∧ Inv X pins σ H s1) E s
  self : ∀ (A : Around) (i : Nat) (s : Shared) (Q : Value → Shared → Prop) (E : Value → Shared → Prop), tn i s.heap → Q (.ref it) s → wpAny (model P w) A (pyIter (.ref it)) Q E s
abbrev TI := St → Hp → (It → Hp → Prop) → Prop
/-- an iterator has come -/
def PIE (X : Cx) (pins : List (Addr × Obj)) (σ : St) (tg : Expr) (R : It → Hp → Prop) (itv : Value) (s2 : Shared) : Prop :=
  ∃ (it : Addr) (fp : List Addr) (tn : Nat → Heap → Prop) (J : It) (H' : Hp), itv = .ref it ∧ Inv X pins σ H' s2 ∧ Turn X.prog X.w X.K tg J fp it tn ∧ tn 0 s2.heap ∧ (∀ b ∈ fp, FpOk X pins H' b) ∧ R J H'
def PI (X : Cx) (tg iter : Expr) (wi : TI) : Prop :=
  ∀ (pins : List (Addr × Obj)) (s : Shared) (σ : St) (H : Hp) (R : It → Hp → Prop), Inv X pins σ H s → wi σ H R →
    wpAny (model X.prog X.w) X.A (eval iter X.env) (fun v s1 => wpAny (model X.prog X.w) X.A (pyIter v) (PIE X pins σ tg R) X.xe s1) X.xe s

/-- the step ahead of the store is nothing for an iterator that keeps no tuple -/
theorem go_of {M : Model} {A : Around} {E : Value → Shared → Prop} {s : Shared} {tg : Expr} {it : Addr} {u : Value} {o : Obj} {n : String} {vs : Array Value} {Q : Unit → Shared → Prop} (ho : s.heap.get? it = some o) (hc : o.cls = .type n) (hd : o.data = .fields vs)
    (hn : ["enumerate", "zip", "dict_itemiterator", "dict_reverseitemiterator", "odict_iterator", "itertools.zip_longest", "itertools.pairwise"].contains n = false) (hQ : Q () s) : wpAny M A (letOwnedTupleGo tg (.ref it) u) Q E s := by
  unfold letOwnedTupleGo
  cases tg <;> first
    | exact wpAny_pure hQ
    | (cases u <;> first
        | exact wpAny_pure hQ
        | (refine wpAny_bind (wpAny_load ho ?_)
           rw [hc, hd]
           show wpAny M A (if (["enumerate", "zip", "dict_itemiterator", "dict_reverseitemiterator", "odict_iterator", "itertools.zip_longest", "itertools.pairwise"].contains n && vs[0]? == some (rawInt _)) = true then _ else _) Q E s
           rw [if_neg (by intro h; rw [hn, Bool.false_and] at h; cases h)]
           exact wpAny_pure hQ))

/-- the list at a, as it stands at each turn (a loop may append to it) -/
def Itl (K : PySem.W.Frag) (a : Addr) : It :=
  ⟨fun i H => ∃ xs x, SqL K H a xs ∧ xs[i]? = some x, fun i H x H' => H' = H ∧ ∀ xs, SqL K H a xs → xs[i]? = some x, fun i H => ∃ xs, SqL K H a xs ∧ xs.length ≤ i⟩
def Itt (K : PySem.W.Frag) (a : Addr) : It :=
  ⟨fun i H => ∃ xs x, SqT K H a xs ∧ xs[i]? = some x, fun i H x H' => H' = H ∧ ∀ xs, SqT K H a xs → xs[i]? = some x, fun i H => ∃ xs, SqT K H a xs ∧ xs.length ≤ i⟩
/-- lo, lo + 1, .. (n of them) -/
def Itr (lo : Int) (n : Nat) : It := ⟨fun i _ => i < n, fun i H x H' => H' = H ∧ x = .int (lo + i), fun i _ => n ≤ i⟩
theorem turn_list {P : Program} {w : World} {K : PySem.W.Frag} {tg : Expr} (a it : Addr) : Turn P w K tg (Itl K a) [it] it (fun i h => h.IsListIter it a i) where
  mem := by simp
  obj := fun i h st b hb => by
    have e : b = it := by simpa using hb
    subst e
    obtain ⟨o, e, c, d⟩ := st
    exact ⟨o, e, fun v z => by rw [d] at z; cases z⟩
  keep := fun i h h' st k => st.at fun o e => k it (by simp) o e
  item := by
    intro X hP hw hK hc i pins s σ H E I hf st hg
    subst hP hw hK
    obtain ⟨xs, x, hq, hx⟩ := hg
    obtain ⟨its, rv, p, hz⟩ := I.list hq
    obtain ⟨u, hu, ru⟩ := rv.get hx
    obtain ⟨f0, f1, f2, f3, f4, f5⟩ := hf it (by simp)
    refine wpAny_pyNext_list_item st p.isList (x := u) (by simpa using hu) fun h' st' sb => ?_
    have I1 : Inv X pins σ H { s with heap := h' } := I.turned (t' := s.toks) (fun b o hb e => (sb.2 b hb).trans e) f0 f1 f3 f4 f5
    obtain ⟨o, e, c, d⟩ := id st'
    exact ⟨u, rfl, go_of (s := { s with heap := h' }) e c d (by decide) ⟨x, H, I1, ru, ⟨rfl, fun ys hy => by rw [I.list_inj hy hq]; exact hx⟩, st', fun b hb => (hf b hb).1⟩⟩
  done := by
    intro X hP hw hK hc i pins s σ H E I hf st hg
    subst hP hw hK
    obtain ⟨xs, hq, hx⟩ := hg
    obtain ⟨its, rv, p, hz⟩ := I.list hq
    obtain ⟨f0, f1, f2, f3, f4, f5⟩ := hf it (by simp)
    have hl := rv.length
    exact wpAny_pyNext_list_end (I.ok.hd hc) st p.isList (by simp; omega) fun h' eb => ⟨rfl, I.turned (t' := s.toks) (fun b o hb e => eb b o hb e) f0 f1 f3 f4 f5⟩
  self := fun _ _ _ _ _ st h => wpAny_pyIter_listiter st h
theorem turn_tuple {P : Program} {w : World} {K : PySem.W.Frag} {tg : Expr} (a it : Addr) : Turn P w K tg (Itt K a) [it] it (fun i h => h.IsTupleIter it a i) where
  mem := by simp
  obj := fun i h st b hb => by
    have e : b = it := by simpa using hb
    subst e
    obtain ⟨o, e, c, d⟩ := st
    exact ⟨o, e, fun v z => by rw [d] at z; cases z⟩
  keep := fun i h h' st k => st.at fun o e => k it (by simp) o e
  item := by
    intro X hP hw hK hc i pins s σ H E I hf st hg
    subst hP hw hK
    obtain ⟨xs, x, hq, hx⟩ := hg
    obtain ⟨its, rv, p, hz⟩ := I.tuple hq
    obtain ⟨u, hu, ru⟩ := rv.get hx
    obtain ⟨f0, f1, f2, f3, f4, f5⟩ := hf it (by simp)
    refine wpAny_pyNext_tuple_item st (show s.heap.IsTuple a its.toArray from p) (x := u) (by simpa using hu) fun h' st' sb => ?_
    have I1 : Inv X pins σ H { s with heap := h' } := I.turned (t' := s.toks) (fun b o hb e => (sb.2 b hb).trans e) f0 f1 f3 f4 f5
    obtain ⟨o, e, c, d⟩ := id st'
    exact ⟨u, rfl, go_of (s := { s with heap := h' }) e c d (by decide) ⟨x, H, I1, ru, ⟨rfl, fun ys hy => by rw [I.tuple_inj hy hq]; exact hx⟩, st', fun b hb => (hf b hb).1⟩⟩
  done := by
    intro X hP hw hK hc i pins s σ H E I hf st hg
    subst hP hw hK
    obtain ⟨xs, hq, hx⟩ := hg
    obtain ⟨its, rv, p, hz⟩ := I.tuple hq
    obtain ⟨f0, f1, f2, f3, f4, f5⟩ := hf it (by simp)
    have hl := rv.length
    exact wpAny_pyNext_tuple_end (I.ok.hd hc) st (show s.heap.IsTuple a its.toArray from p) (by simp; omega) fun h' eb => ⟨rfl, I.turned (t' := s.toks) (fun b o hb e => eb b o hb e) f0 f1 f3 f4 f5⟩
  self := fun _ _ _ _ _ st h => wpAny_pyIter_tupleiter st h
theorem turn_range {P : Program} {w : World} {K : PySem.W.Frag} {tg : Expr} (it : Addr) (lo : Int) (n : Nat) : Turn P w K tg (Itr lo n) [it] it (fun i h => IsRangeIter h it (lo + (i : Nat) * 1) ((n : Int) - (i : Nat)) 1) where
  mem := by simp
  obj := fun i h st b hb => by
    have e : b = it := by simpa using hb
    subst e
    exact ⟨_, st, fun v z => by
      have z' : Data.fields _ = Data.cell v := z
      cases z'⟩
  keep := fun i h h' st k => k it (by simp) _ st
  item := by
    intro X hP hw hK hc i pins s σ H E I hf st hg
    subst hP hw hK
    obtain ⟨f0, f1, f2, f3, f4, f5⟩ := hf it (by simp)
    have W := Walks.range (prog := X.prog) (w := X.w) (I.ok.hd hc) it lo 1 n
    refine W.item i s _ _ hg st fun v h' tk hv st' kk => ?_
    obtain ⟨t, rfl⟩ := hv
    have I1 : Inv X pins σ H { s with heap := h', toks := tk } := I.turned (fun b o hb e => kk b o (by simpa using hb) e) f0 f1 f3 f4 f5
    refine ⟨_, rfl, go_of (s := { s with heap := h', toks := tk }) (n := "range_iterator") st' rfl rfl (by decide) ⟨.int (lo + i), H, I1, ⟨t, ?_⟩, ⟨rfl, rfl⟩, st', fun b hb => (hf b hb).1⟩⟩
    rw [Int.mul_one]
  done := by
    intro X hP hw hK hc i pins s σ H E I hf st hg
    subst hP hw hK
    obtain ⟨f0, f1, f2, f3, f4, f5⟩ := hf it (by simp)
    exact wpAny_pyNext_range_end (I.ok.hd hc) st (by have : n ≤ i := hg; omega) fun h' eb => ⟨rfl, I.turned (t' := s.toks) (fun b o hb e => eb b o hb e) f0 f1 f3 f4 f5⟩
  self := fun _ _ _ _ _ st h => wpAny_pyIter_rangeiter st h
end L2

namespace L2
open PySem PySem.Spec PyProof.Rows
section
variable {X : Cx} {tg : Expr}
def iList (K : PySem.W.Frag) (tl : TE) : TI := fun σ H R => tl σ H fun x H1 => ∃ a, x = .ref a ∧ (∃ xs, SqL K H1 a xs) ∧ R (Itl K a) H1
def iTup (K : PySem.W.Frag) (tl : TE) : TI := fun σ H R => tl σ H fun x H1 => ∃ a, x = .ref a ∧ (∃ xs, SqT K H1 a xs) ∧ R (Itt K a) H1
theorem pi_list {l : Expr} {tl : TE} (hl : PE X l tl) : PI X tg l (iList X.K tl) := by
  intro pins s σ H R I h
  refine thn (hl pins s σ H _ I h) fun v s1 ⟨x, H1, I1, r1, q1⟩ => ?_
  obtain ⟨a, e, ⟨xs, hq⟩, q⟩ := q1
  subst e
  cases r1
  obtain ⟨its, rv, p, hz⟩ := I1.list hq
  refine wpAny_pyIter_list p.isList ?_
  refine ⟨s1.heap.objs.size, [s1.heap.objs.size], _, _, H1, rfl, I1.kept (t' := s1.toks) fun b o e => Heap.get?_push_of_some _ e, turn_list a _, ⟨_, Heap.get?_push_size _ rfl, rfl, rfl⟩, fun b hb => ?_, q⟩
  have e : b = s1.heap.objs.size := by simpa using hb
  subst e
  exact I1.fpOk (Nat.le_refl _) (I1.hok.fresh (Nat.le_refl _))
theorem pi_tup {l : Expr} {tl : TE} (hl : PE X l tl) : PI X tg l (iTup X.K tl) := by
  intro pins s σ H R I h
  refine thn (hl pins s σ H _ I h) fun v s1 ⟨x, H1, I1, r1, q1⟩ => ?_
  obtain ⟨a, e, ⟨xs, hq⟩, q⟩ := q1
  subst e
  cases r1
  obtain ⟨its, rv, p, hz⟩ := I1.tuple hq
  refine wpAny_pyIter_tuple (show s1.heap.IsTuple a its.toArray from p) ?_
  refine ⟨s1.heap.objs.size, [s1.heap.objs.size], _, _, H1, rfl, I1.kept (t' := s1.toks) fun b o e => Heap.get?_push_of_some _ e, turn_tuple a _, ⟨_, Heap.get?_push_size _ rfl, rfl, rfl⟩, fun b hb => ?_, q⟩
  have e : b = s1.heap.objs.size := by simpa using hb
  subst e
  exact I1.fpOk (Nat.le_refl _) (I1.hok.fresh (Nat.le_refl _))
/-- a range object just made, walked -/
theorem range_it {pins : List (Addr × Obj)} {σ : St} {H : Hp} {s : Shared} {R : It → Hp → Prop} {E : Value → Shared → Prop} {lo hi : Int} {t u v : Tok} {tk : Nat} (I : Inv X pins σ H s) (h1 : -(2 ^ 62) ≤ lo) (h2 : lo < 2 ^ 62) (h3 : -(2 ^ 62) ≤ hi) (h4 : hi < 2 ^ 62)
    (q : R (Itr lo (hi - lo).toNat) H) : wpAny (model X.prog X.w) X.A (pyIter (.ref s.heap.objs.size)) (PIE X pins σ tg R) E { s with heap := s.heap.push { cls := .type "range", data := .fields #[.int lo t, .int hi u, .int 1 v] }, toks := tk } := by
  refine wpAny_pyIter_range (IsRange.new ..) (small_one h1 h2 h3 h4) ?_
  have I1 : Inv X pins σ H { s with heap := s.heap.push { cls := .type "range", data := .fields #[.int lo t, .int hi u, .int 1 v] }, toks := tk } := I.kept fun b o e => Heap.get?_push_of_some _ e
  refine ⟨(s.heap.push { cls := .type "range", data := .fields #[.int lo t, .int hi u, .int 1 v] }).objs.size, [(s.heap.push { cls := .type "range", data := .fields #[.int lo t, .int hi u, .int 1 v] }).objs.size], _, _, H, rfl,
    I1.kept (t' := tk) fun b o e => Heap.get?_push_of_some _ e, turn_range _ lo (hi - lo).toNat, ?_, fun b hb => ?_, q⟩
  · have e1 : lo + ((0 : Nat) : Int) * 1 = lo := by simp
    have e2 : (((hi - lo).toNat : Nat) : Int) - ((0 : Nat) : Int) = Builtin.Range.rangeSize lo hi 1 := by rw [rangeSize_one]; split <;> omega
    show IsRangeIter _ _ (lo + ((0 : Nat) : Int) * 1) ((((hi - lo).toNat : Nat) : Int) - ((0 : Nat) : Int)) 1
    rw [e1, e2]
    exact Heap.get?_push_size _ rfl
  · have e : b = (s.heap.push { cls := .type "range", data := .fields #[.int lo t, .int hi u, .int 1 v] }).objs.size := by simpa using hb
    subst e
    exact I1.fpOk (Nat.le_refl _) (I1.hok.fresh (Nat.le_refl _))
def iRng1 (ta : TA) : TI := fun σ H R => ta σ H fun vs H1 => ∃ j : Int, vs = [.int j] ∧ -(2 ^ 62) ≤ j ∧ j < 2 ^ 62 ∧ R (Itr 0 j.toNat) H1
def iRng2 (ta : TA) : TI := fun σ H R => ta σ H fun vs H1 => ∃ i j : Int, vs = [.int i, .int j] ∧ (-(2 ^ 62) ≤ i ∧ i < 2 ^ 62 ∧ -(2 ^ 62) ≤ j ∧ j < 2 ^ 62) ∧ R (Itr i (j - i).toNat) H1
theorem pi_range1 {a : Expr} {ta : TA} {p pos : Pos} (hg : Gl X "range") (hm : X.mg "range" = none) (ha : PA X [a] ta) (hs : starEach [a] X.env = [(false, eval a X.env)] := by rfl) : PI X tg (.Call (.Name "range" p) [a] [] pos) (iRng1 ta) := by
  intro pins s σ H R I h
  refine Call_ (ld_blt I hg hm boot_range (PyProof.Rows.callWith_type1 (thn (ha pos pins s σ H _ I h) fun us s1 ⟨vs, H1, I1, r1, q1⟩ => ?_) hs rfl))
  obtain ⟨j, e, q1, q2, q⟩ := q1
  subst e
  cases r1 with
  | cons r rr =>
    cases rr
    obtain ⟨t, rfl⟩ := r
    exact call_range_1 (range_it I1 (by omega) (by omega) q1 q2 (by simpa using q))
theorem pi_range2 {a b : Expr} {ta : TA} {p pos : Pos} (hg : Gl X "range") (hm : X.mg "range" = none) (ha : PA X [a, b] ta) (hs : starEach [a, b] X.env = [(false, eval a X.env), (false, eval b X.env)] := by rfl) (hs2 : starEach [b] X.env = [(false, eval b X.env)] := by rfl) :
    PI X tg (.Call (.Name "range" p) [a, b] [] pos) (iRng2 ta) := by
  intro pins s σ H R I h
  refine Call_ (ld_blt I hg hm boot_range (PyProof.Rows.callWith_type1 (thn (ha pos pins s σ H _ I h) fun us s1 ⟨vs, H1, I1, r1, q1⟩ => ?_) (by rw [hs, hs2]) (by rw [hs2]; rfl)))
  obtain ⟨i, j, e, ⟨q1, q2, q3, q4⟩, q⟩ := q1
  subst e
  cases r1 with
  | cons r rr =>
    cases rr with
    | cons r' rr =>
      cases rr
      obtain ⟨t, rfl⟩ := r
      obtain ⟨t', rfl⟩ := r'
      exact call_range_2 (range_it I1 q1 q2 q3 q4 q)

/-! ### for -/
/-- W: the invariant by the turn and a measure; N: what the body is to reach -/
def tFor (wi : TI) (g : TG) (tb : TS) : TS := fun D σ H => wi σ H fun J H1 => ∃ W : Nat → Nat → St → Hp → Prop, (∃ m, W 0 m σ H1) ∧ ∀ i m σ H, W i m σ H →
  (J.stop i H ∧ D.nx σ H) ∨ (J.go i H ∧ ∃ N : St → Hp → Prop, (∀ σ' H', N σ' H' → ∃ m', m' < m ∧ W (i + 1) m' σ' H') ∧ ∀ x H', J.yld i H x H' → g x σ H' fun σ2 H2 => tb { D with nx := N, ct := N, bk := D.nx } σ2 H2)
/-- the records at fp as they stand -/
def pinsAt (fp : List Addr) (h : Heap) : List (Addr × Obj) := fp.filterMap fun b => (h.get? b).map fun o => (b, o)
theorem mem_pinsAt {fp : List Addr} {h : Heap} {b : Addr} {o : Obj} (hb : b ∈ fp) (e : h.get? b = some o) : (b, o) ∈ pinsAt fp h := List.mem_filterMap.mpr ⟨b, hb, by rw [e]; rfl⟩
theorem of_pinsAt {fp : List Addr} {h : Heap} {p : Addr × Obj} (hp : p ∈ pinsAt fp h) : p.1 ∈ fp ∧ h.get? p.1 = some p.2 := by
  obtain ⟨b, hb, e⟩ := List.mem_filterMap.mp hp
  cases q : h.get? b with
  | none => rw [q] at e; cases e
  | some o =>
    rw [q] at e
    have e' : (b, o) = p := Option.some.inj e
    subst e'
    exact ⟨hb, q⟩
theorem Inv.pinned {pins : List (Addr × Obj)} {σ : St} {H : Hp} {s : Shared} {fp : List Addr} (I : Inv X pins σ H s) (hf : ∀ b ∈ fp, FpOk X pins H b) (ho : ∀ b ∈ fp, ∃ o, s.heap.get? b = some o ∧ ∀ v, o.data ≠ .cell v) : Inv X (pins ++ pinsAt fp s.heap) σ H s :=
  I.pins_of fun p hp => (List.mem_append.mp hp).elim (fun z => I.pin p (List.mem_append_right _ z)) fun z => by
    obtain ⟨hb, e⟩ := of_pinsAt z
    obtain ⟨f0, f1, f2, _⟩ := hf p.1 hb
    obtain ⟨o, e', d⟩ := ho p.1 hb
    rw [e] at e'; cases e'
    exact ⟨e, f0, f1, f2, d⟩
theorem Inv.unpinned {pins pl : List (Addr × Obj)} {σ : St} {H : Hp} {s : Shared} (I : Inv X (pins ++ pl) σ H s) : Inv X pins σ H s := I.pins_of fun p hp => I.pin p (List.mem_append_right _ (List.mem_append_left _ hp))
theorem ps_for {iter : Expr} {body : List Stmt} {wi : TI} {g : TG} {tb : TS} {pos : Pos} (hp : PassesOwn (model X.prog X.w) X.A X.env X.xe) (hc : X.calm = true) (hi : PI X tg iter wi) (hg : PG X tg g) (hb : PSs X body tb)
    (hs : ∀ x, foldedSetIterable iter X.env x = pure x := by intro _; rfl) : PS X (.For tg iter body [] pos) (tFor wi g tb) := by
  intro pins s σ H D I h
  refine wpAny_For (thn (hi pins s σ H _ I h) fun v s1 h1 => thn h1 fun itv s2 h2 => ?_) hs
  obtain ⟨it, fp, tn, J, H2, e, I2, T, st2, f2, W, ⟨m0, w0⟩, turn⟩ := h2
  subst e
  -- what stays true of the iterator's objects through the loop
  have stat : ∀ {H' : Hp}, (∀ b ∈ fp, H' b = none) → ∀ b ∈ fp, FpOk X pins H' b := fun hn b hb => ⟨hn b hb, (f2 b hb).2⟩
  refine codeAny_forLoop_any (fun n s' => ∃ i σ' H', Inv X pins σ' H' s' ∧ tn i s'.heap ∧ (∀ b ∈ fp, H' b = none) ∧ W i n σ' H') ?_ m0 ⟨0, σ, H2, I2, st2, fun b hb => (f2 b hb).1, w0⟩
  rintro n s3 ⟨i, σ3, H3, I3, st3, fr3, w3⟩
  rcases turn i n σ3 H3 w3 with ⟨stop, qn⟩ | ⟨go, N, hN, step⟩
  · refine wpAny_passesOwn hp (thn (T.done X rfl rfl rfl hc i pins s3 σ3 H3 X.xe I3 (stat fr3) st3 stop) fun r s4 ⟨hr, I4⟩ => ?_)
    subst hr
    exact wpAny_execs_nil ⟨σ3, H3, I4, qn⟩
  · refine wpAny_passesOwn hp (thn (T.item X rfl rfl rfl hc i pins s3 σ3 H3 X.xe I3 (stat fr3) st3 go) fun r s4 ⟨u, hr, h4⟩ => ?_)
    subst hr
    refine wpAny_passesOwn hp (thn h4 fun _ s5 ⟨x, H5, I5, r5, y5, st5, fr5⟩ => ?_)
    have I5' := I5.pinned (stat fr5) (T.obj _ _ st5)
    refine wpAny_passesOwn hp (thn (hg _ s5 σ3 H5 x u _ I5' r5 (step x H5 y5)) fun _ s6 ⟨σ6, H6, I6, q6⟩ => ?_)
    refine wpAny_passesOwn hp (thn (hb _ s6 σ6 H6 _ I6 q6) fun f s7 q7 => ?_)
    have again : ∀ {σ7 : St} {H7 : Hp}, Inv X (pins ++ pinsAt fp s5.heap) σ7 H7 s7 → N σ7 H7 → ∃ m, m < n ∧ ∃ i σ' H', Inv X pins σ' H' s7 ∧ tn i s7.heap ∧ (∀ b ∈ fp, H' b = none) ∧ W i m σ' H' := fun {σ7 H7} I7 n7 => by
      obtain ⟨m', hm, w7⟩ := hN σ7 H7 n7
      refine ⟨m', hm, i + 1, σ7, H7, I7.unpinned, T.keep _ _ _ st5 fun b hb o e => (I7.pin (b, o) (List.mem_append_right _ (List.mem_append_right _ (mem_pinsAt hb e)))).1, fun b hb => ?_, w7⟩
      obtain ⟨o, e, d⟩ := T.obj _ _ st5 b hb
      exact (I7.pin (b, o) (List.mem_append_right _ (List.mem_append_right _ (mem_pinsAt hb e)))).2.1
    cases f with
    | next => obtain ⟨σ7, H7, I7, n7⟩ := q7; exact again I7 n7
    | cont => obtain ⟨σ7, H7, I7, n7⟩ := q7; exact again I7 n7
    | brk => obtain ⟨σ7, H7, I7, q7⟩ := q7; exact ⟨σ7, H7, I7.unpinned, q7⟩
    | ret v => obtain ⟨x7, σ7, H7, I7, r7, q7⟩ := q7; exact ⟨x7, σ7, H7, I7.unpinned, r7, q7⟩
end

/-! ### the forms one uses -/
/-- over a list that the body leaves as it is -/
theorem for_list {K : PySem.W.Frag} {a : Addr} {xs : List V} {g : TG} {tb : TS} {D : Ends} {σ : St} {H : Hp} (Pv : Nat → St → Hp → Prop) (h0 : Pv 0 σ H) (hl : ∀ i σ H, i ≤ xs.length → Pv i σ H → SqL K H a xs)
    (hs : ∀ i x σ H, xs[i]? = some x → Pv i σ H → g x σ H fun σ2 H2 => tb { D with nx := Pv (i + 1), ct := Pv (i + 1), bk := D.nx } σ2 H2) (hd : ∀ σ H, Pv xs.length σ H → D.nx σ H) :
    ∃ W : Nat → Nat → St → Hp → Prop, (∃ m, W 0 m σ H) ∧ ∀ i m σ H, W i m σ H →
      ((Itl K a).stop i H ∧ D.nx σ H) ∨ ((Itl K a).go i H ∧ ∃ N : St → Hp → Prop, (∀ σ' H', N σ' H' → ∃ m', m' < m ∧ W (i + 1) m' σ' H') ∧ ∀ x H', (Itl K a).yld i H x H' → g x σ H' fun σ2 H2 => tb { D with nx := N, ct := N, bk := D.nx } σ2 H2) := by
  refine ⟨fun i m σ H => m = xs.length - i ∧ i ≤ xs.length ∧ Pv i σ H, ⟨xs.length, by simp, Nat.zero_le _, h0⟩, ?_⟩
  rintro i m σ H ⟨rfl, hi, p⟩
  have q := hl i σ H hi p
  by_cases hlt : i < xs.length
  · refine .inr ⟨⟨xs, xs[i], q, by simp [hlt]⟩, Pv (i + 1), fun σ' H' p' => ⟨xs.length - (i + 1), by omega, rfl, hlt, p'⟩, fun x H' y => ?_⟩
    obtain ⟨e, y⟩ := y
    subst e
    exact hs i x σ _ (y xs q) p
  · have e : i = xs.length := by omega
    subst e
    exact .inl ⟨⟨xs, q, Nat.le_refl _⟩, hd σ H p⟩
theorem for_tup {K : PySem.W.Frag} {a : Addr} {xs : List V} {g : TG} {tb : TS} {D : Ends} {σ : St} {H : Hp} (Pv : Nat → St → Hp → Prop) (h0 : Pv 0 σ H) (hl : ∀ i σ H, i ≤ xs.length → Pv i σ H → SqT K H a xs)
    (hs : ∀ i x σ H, xs[i]? = some x → Pv i σ H → g x σ H fun σ2 H2 => tb { D with nx := Pv (i + 1), ct := Pv (i + 1), bk := D.nx } σ2 H2) (hd : ∀ σ H, Pv xs.length σ H → D.nx σ H) :
    ∃ W : Nat → Nat → St → Hp → Prop, (∃ m, W 0 m σ H) ∧ ∀ i m σ H, W i m σ H →
      ((Itt K a).stop i H ∧ D.nx σ H) ∨ ((Itt K a).go i H ∧ ∃ N : St → Hp → Prop, (∀ σ' H', N σ' H' → ∃ m', m' < m ∧ W (i + 1) m' σ' H') ∧ ∀ x H', (Itt K a).yld i H x H' → g x σ H' fun σ2 H2 => tb { D with nx := N, ct := N, bk := D.nx } σ2 H2) := by
  refine ⟨fun i m σ H => m = xs.length - i ∧ i ≤ xs.length ∧ Pv i σ H, ⟨xs.length, by simp, Nat.zero_le _, h0⟩, ?_⟩
  rintro i m σ H ⟨rfl, hi, p⟩
  have q := hl i σ H hi p
  by_cases hlt : i < xs.length
  · refine .inr ⟨⟨xs, xs[i], q, by simp [hlt]⟩, Pv (i + 1), fun σ' H' p' => ⟨xs.length - (i + 1), by omega, rfl, hlt, p'⟩, fun x H' y => ?_⟩
    obtain ⟨e, y⟩ := y
    subst e
    exact hs i x σ _ (y xs q) p
  · have e : i = xs.length := by omega
    subst e
    exact .inl ⟨⟨xs, q, Nat.le_refl _⟩, hd σ H p⟩
theorem for_range {lo : Int} {n : Nat} {g : TG} {tb : TS} {D : Ends} {σ : St} {H : Hp} (Pv : Nat → St → Hp → Prop) (h0 : Pv 0 σ H)
    (hs : ∀ i σ H, i < n → Pv i σ H → g (.int (lo + i)) σ H fun σ2 H2 => tb { D with nx := Pv (i + 1), ct := Pv (i + 1), bk := D.nx } σ2 H2) (hd : ∀ σ H, Pv n σ H → D.nx σ H) :
    ∃ W : Nat → Nat → St → Hp → Prop, (∃ m, W 0 m σ H) ∧ ∀ i m σ H, W i m σ H →
      ((Itr lo n).stop i H ∧ D.nx σ H) ∨ ((Itr lo n).go i H ∧ ∃ N : St → Hp → Prop, (∀ σ' H', N σ' H' → ∃ m', m' < m ∧ W (i + 1) m' σ' H') ∧ ∀ x H', (Itr lo n).yld i H x H' → g x σ H' fun σ2 H2 => tb { D with nx := N, ct := N, bk := D.nx } σ2 H2) := by
  refine ⟨fun i m σ H => m = n - i ∧ i ≤ n ∧ Pv i σ H, ⟨n, by simp, Nat.zero_le _, h0⟩, ?_⟩
  rintro i m σ H ⟨rfl, hi, p⟩
  by_cases hlt : i < n
  · refine .inr ⟨hlt, Pv (i + 1), fun σ' H' p' => ⟨n - (i + 1), by omega, rfl, hlt, p'⟩, fun x H' y => ?_⟩
    obtain ⟨e, y⟩ := y
    subst e y
    exact hs i σ _ hlt p
  · have e : i = n := by omega
    subst e
    exact .inl ⟨Nat.le_refl _, hd σ H p⟩
/-- while, by a word and a measure of the state -/
theorem while_by {c : TT} {tb : TS} {D : Ends} {σ : St} {H : Hp} (Pv : St → Hp → Prop) (μ : St → Hp → Nat) (h0 : Pv σ H)
    (hs : ∀ σ H, Pv σ H → c σ H fun b H1 => if b = true then tb { D with nx := fun σ' H' => Pv σ' H' ∧ μ σ' H' < μ σ H, ct := fun σ' H' => Pv σ' H' ∧ μ σ' H' < μ σ H, bk := D.nx } σ H1 else D.nx σ H1)
    (mono : ∀ σ H Q Q', (∀ b H1, Q b H1 → Q' b H1) → c σ H Q → c σ H Q') : tWhile c tb D σ H := by
  refine ⟨fun m σ H => m = μ σ H ∧ Pv σ H, ⟨_, rfl, h0⟩, ?_⟩
  rintro m σ H ⟨rfl, p⟩
  refine mono σ H _ _ (fun b H1 q => ?_) (hs σ H p)
  cases b with
  | true => exact ⟨_, fun σ' H' ⟨p', l⟩ => ⟨_, l, rfl, p'⟩, q⟩
  | false => exact q
end L2

namespace L2
open PySem PySem.Spec PyProof.Rows

abbrev R2 := V → V → Hp → VK → Prop
/-- a two-place operation on values: f is binaryOp op, inplaceOp op or compareOp op -/
def OpR (X : Cx) (f : Value → Value → Sem Value) (r : R2) : Prop :=
  ∀ (pins : List (Addr × Obj)) (s : Shared) (σ : St) (H : Hp) (x y : V) (v u : Value) (Q : VK), Inv X pins σ H s → RelV x v → RelV y u → r x y H Q →
    wpAny (model X.prog X.w) X.A (f v u) (EP X pins σ Q) X.xe s
/-- a one-place operation -/
def UnR (X : Cx) (f : Value → Sem Value) (r : V → Hp → VK → Prop) : Prop :=
  ∀ (pins : List (Addr × Obj)) (s : Shared) (σ : St) (H : Hp) (x : V) (v : Value) (Q : VK), Inv X pins σ H s → RelV x v → r x H Q →
    wpAny (model X.prog X.w) X.A (f v) (EP X pins σ Q) X.xe s
/-- a call of a value that is known (a builtin, a type) with values -/
def CallR (X : Cx) (f : Value) (r : List V → Hp → VK → Prop) : Prop :=
  ∀ (pins : List (Addr × Obj)) (s : Shared) (σ : St) (H : Hp) (xs : List V) (us : List Value) (Q : VK), Inv X pins σ H s → Vals xs us → r xs H Q →
    wpAny (model X.prog X.w) X.A (call f us) (EP X pins σ Q) X.xe s
/-- a value's truth -/
def TruR (X : Cx) (r : V → Hp → (Bool → Hp → Prop) → Prop) : Prop :=
  ∀ (pins : List (Addr × Obj)) (s : Shared) (σ : St) (H : Hp) (x : V) (v : Value) (Q : Bool → Hp → Prop), Inv X pins σ H s → RelV x v → r x H Q →
    wpAny (model X.prog X.w) X.A (truthy v) (TP X pins σ Q) X.xe s

def tOp (r : R2) (ta tb : TE) : TE := fun σ H Q => ta σ H fun x H1 => tb σ H1 fun y H2 => r x y H2 Q
def tUn (r : V → Hp → VK → Prop) (ta : TE) : TE := fun σ H Q => ta σ H fun x H1 => r x H1 Q
/-- ints in, under C, and a value out -/
def rI (C : Int → Int → Prop) (g : Int → Int → V) : R2 := fun x y H Q => ∃ i j, x = .int i ∧ y = .int j ∧ C i j ∧ Q (g i j) H
def rI0 (g : Int → Int → V) : R2 := fun x y H Q => ∃ i j, x = .int i ∧ y = .int j ∧ Q (g i j) H
def rU (g : Int → V) : V → Hp → VK → Prop := fun x H Q => ∃ i, x = .int i ∧ Q (g i) H

section
variable {X : Cx} {a b c : Expr} {ta tb tc : TE} {pos : Pos}

theorem binT (ha : PE X a ta) (hb : PE X b tb) {pins : List (Addr × Obj)} {s : Shared} {σ : St} {H : Hp} {R : V → V → Hp → Prop} (I : Inv X pins σ H s)
    (h : ta σ H fun x H1 => tb σ H1 fun y H2 => R x y H2) {Q : Value → Shared → Prop} {f : Value → Value → Sem Value}
    (hf : ∀ v u s2 x y H2, Inv X pins σ H2 s2 → RelV x v → RelV y u → R x y H2 → wpAny (model X.prog X.w) X.A (f v u) Q X.xe s2) :
    wpAny (model X.prog X.w) X.A (eval a X.env) (fun v s₁ => wpAny (model X.prog X.w) X.A (eval b X.env) (fun u s₂ => wpAny (model X.prog X.w) X.A (f v u) Q X.xe s₂) X.xe s₁) X.xe s := by
  refine thn (ha pins s σ H _ I h) fun v s1 ⟨x, H1, I1, r1, q1⟩ => ?_
  refine thn (hb pins s1 σ H1 _ I1 q1) fun u s2 ⟨y, H2, I2, r2, q2⟩ => ?_
  exact hf v u s2 x y H2 I2 r1 r2 q2

theorem pe_op {op : Operator} {r : R2} (ho : OpR X (binaryOp op) r) (ha : PE X a ta) (hb : PE X b tb) : PE X (.BinOp a op b pos) (tOp r ta tb) := by
  intro pins s σ H Q I h
  exact wpAny_BinOp (binT ha hb I h fun v u s2 x y H2 I2 rx ry q => ho pins s2 σ H2 x y v u Q I2 rx ry q)
/-! ### ints -/
theorem opI {f : Value → Value → Sem Value} {C : Int → Int → Prop} {g : Int → Int → Int}
    (rule : ∀ (i j : Int) (t u : Tok) (s : Shared) (Q : Value → Shared → Prop) (E : Value → Shared → Prop), C i j → Q (.int (g i j) s.toks) { s with toks := s.toks + 1 } → wpAny (model X.prog X.w) X.A (f (.int i t) (.int j u)) Q E s) :
    OpR X f (rI C fun i j => .int (g i j)) := by
  intro pins s σ H x y v u Q I rx ry h
  obtain ⟨i, j, rfl, rfl, hc, q⟩ := h
  obtain ⟨t, rfl⟩ := rx
  obtain ⟨t', rfl⟩ := ry
  exact rule i j t t' s _ _ hc ⟨.int (g i j), H, I.tok _, ⟨_, rfl⟩, q⟩
theorem opI0 {f : Value → Value → Sem Value} {g : Int → Int → Int}
    (rule : ∀ (i j : Int) (t u : Tok) (s : Shared) (Q : Value → Shared → Prop) (E : Value → Shared → Prop), Q (.int (g i j) s.toks) { s with toks := s.toks + 1 } → wpAny (model X.prog X.w) X.A (f (.int i t) (.int j u)) Q E s) :
    OpR X f (rI0 fun i j => .int (g i j)) := by
  intro pins s σ H x y v u Q I rx ry h
  obtain ⟨i, j, rfl, rfl, q⟩ := h
  obtain ⟨t, rfl⟩ := rx
  obtain ⟨t', rfl⟩ := ry
  exact rule i j t t' s _ _ ⟨.int (g i j), H, I.tok _, ⟨_, rfl⟩, q⟩
theorem opB0 {f : Value → Value → Sem Value} {g : Int → Int → Bool}
    (rule : ∀ (i j : Int) (t u : Tok) (s : Shared) (Q : Value → Shared → Prop) (E : Value → Shared → Prop), Q (.bool (g i j)) s → wpAny (model X.prog X.w) X.A (f (.int i t) (.int j u)) Q E s) :
    OpR X f (rI0 fun i j => .bl (g i j)) := by
  intro pins s σ H x y v u Q I rx ry h
  obtain ⟨i, j, rfl, rfl, q⟩ := h
  obtain ⟨t, rfl⟩ := rx
  obtain ⟨t', rfl⟩ := ry
  exact rule i j t t' s _ _ ⟨.bl (g i j), H, I, rfl, q⟩

def CDiv (i j : Int) : Prop := 0 < j ∧ j < 1073741824
def CDivN (i j : Int) : Prop := j ≠ 0 ∧ j.natAbs < 1073741824
def CPow (i j : Int) : Prop := 0 ≤ j ∧ j ≤ 1000000 ∧ i.natAbs < 2 ^ 64
def CMul (i j : Int) : Prop := (-(2 ^ 64) < i ∧ i < 2 ^ 64) ∨ (-(2 ^ 64) < j ∧ j < 2 ^ 64)
theorem op_add : OpR X (binaryOp .Add) (rI0 fun i j => .int (i + j)) := opI0 fun _ _ _ _ _ _ _ q => add_int q
theorem op_sub : OpR X (binaryOp .Sub) (rI0 fun i j => .int (i - j)) := opI0 fun _ _ _ _ _ _ _ q => sub_int q
/-- % by a positive divisor of any size -/
theorem op_mod : OpR X (binaryOp .Mod) (rI (fun _ j => 0 < j) fun i j => .int (i % j)) := opI fun i j _ _ _ _ _ hc q => by
  have h1 : (0 : Int) < j := hc
  exact mod_int' (by omega) (by rw [Int.fmod_eq_emod_of_nonneg i (by omega)]; exact q)
/-! ### bools among ints: n += (a < b) -/
end

/-! ### comparisons -/
/-- the scalars that == tells apart as data does -/
def scal : V → V → Bool
  | .non, .non => true | .non, .int _ => true | .int _, .non => true | .non, .bl _ => true | .bl _, .non => true | .non, .str _ => true | .str _, .non => true
  | .int _, .int _ => true | .bl _, .bl _ => true | .str _, .str _ => true | .byt _, .byt _ => true
  | .int _, .str _ => true | .str _, .int _ => true | .bl _, .str _ => true | .str _, .bl _ => true
  | _, _ => false
def rEq : R2 := fun x y H Q => scal x y = true ∧ Q (.bl (decide (x = y))) H
def rNe : R2 := fun x y H Q => scal x y = true ∧ Q (.bl (!decide (x = y))) H

theorem dec_int {i j : Int} : decide (V.int i = V.int j) = (i == j) := by
  rw [Bool.eq_iff_iff]
  simp
theorem dec_bl {i j : Bool} : decide (V.bl i = V.bl j) = (i == j) := by
  rw [Bool.eq_iff_iff]
  simp
theorem dec_str {i j : Str} : decide (V.str i = V.str j) = (i == j) := by
  rw [Bool.eq_iff_iff]
  simp
theorem dec_byt {i j : Array UInt8} : decide (V.byt i = V.byt j) = (i.toList == j.toList) := by
  rw [Bool.eq_iff_iff]
  cases i
  cases j
  simp

section
variable {X : Cx} {a b c : Expr} {ta tb tc : TE} {pos : Pos}
theorem fin_bl {pins : List (Addr × Obj)} {σ : St} {H : Hp} {s : Shared} {Q : VK} {k k' : Bool} (I : Inv X pins σ H s) (q : Q (.bl k) H) (e : k = k') : EP X pins σ Q (.bool k') s := by
  subst e
  exact ⟨.bl k, H, I, rfl, q⟩
theorem op_eq : OpR X (compareOp .Eq) rEq := by
  intro pins s σ H x y v u Q I rx ry h
  obtain ⟨hs, q⟩ := h
  cases x with
  | non =>
    cases rx
    cases y with
    | non => cases ry; exact PySem.EqNone.eq_none_none (fin_bl I q (by simp))
    | bl j => cases ry; exact PySem.EqNone.eq_none_bool (fin_bl I q (by simp))
    | int j => obtain ⟨t', rfl⟩ := ry; exact PySem.EqNone.eq_none_int (fin_bl I q (by simp))
    | str j => obtain ⟨t', rfl⟩ := ry; exact PySem.EqNone.eq_none_str (fin_bl I q (by simp))
    | _ => exact absurd (show false = true from hs) Bool.false_ne_true
  | bl i =>
    cases rx
    cases y with
    | non => cases ry; exact PySem.EqNone.eq_bool_none (fin_bl I q (by simp))
    | bl j => cases ry; exact eq_bool (fin_bl I q dec_bl)
    | str j => obtain ⟨t', rfl⟩ := ry; exact PySem.EqMixed.eq_bool_str (fin_bl I q (by simp))
    | _ => exact absurd (show false = true from hs) Bool.false_ne_true
  | int i =>
    obtain ⟨t, rfl⟩ := rx
    cases y with
    | non => cases ry; exact PySem.EqNone.eq_int_none (fin_bl I q (by simp))
    | int j => obtain ⟨t', rfl⟩ := ry; exact eq_int (fin_bl I q dec_int)
    | str j => obtain ⟨t', rfl⟩ := ry; exact PySem.EqMixed.eq_int_str (fin_bl I q (by simp))
    | _ => exact absurd (show false = true from hs) Bool.false_ne_true
  | str i =>
    obtain ⟨t, rfl⟩ := rx
    cases y with
    | non => cases ry; exact PySem.EqNone.eq_str_none (fin_bl I q (by simp))
    | bl j => cases ry; exact PySem.EqMixed.eq_str_bool (fin_bl I q (by simp))
    | int j => obtain ⟨t', rfl⟩ := ry; exact PySem.EqMixed.eq_str_int (fin_bl I q (by simp))
    | str j => obtain ⟨t', rfl⟩ := ry; exact eq_str (fin_bl I q dec_str)
    | _ => exact absurd (show false = true from hs) Bool.false_ne_true
  | byt i =>
    obtain ⟨t, rfl⟩ := rx
    cases y with
    | byt j => obtain ⟨t', rfl⟩ := ry; exact PySem.W.eq_bytes (fin_bl I q dec_byt)
    | _ => exact absurd (show false = true from hs) Bool.false_ne_true
  | _ => cases y <;> exact absurd (show false = true from hs) Bool.false_ne_true
theorem op_ne : OpR X (compareOp .NotEq) rNe := by
  intro pins s σ H x y v u Q I rx ry h
  obtain ⟨hs, q⟩ := h
  cases x with
  | non =>
    cases rx
    cases y with
    | non => cases ry; exact PySem.EqNone.ne_none_none (fin_bl I q (by simp))
    | bl j => cases ry; exact PySem.EqNone.ne_none_bool (fin_bl I q (by simp))
    | int j => obtain ⟨t', rfl⟩ := ry; exact PySem.EqNone.ne_none_int (fin_bl I q (by simp))
    | str j => obtain ⟨t', rfl⟩ := ry; exact PySem.EqNone.ne_none_str (fin_bl I q (by simp))
    | _ => exact absurd (show false = true from hs) Bool.false_ne_true
  | bl i =>
    cases rx
    cases y with
    | non => cases ry; exact PySem.EqNone.ne_bool_none (fin_bl I q (by simp))
    | bl j => cases ry; exact ne_bool (fin_bl I q (congrArg not dec_bl))
    | str j => obtain ⟨t', rfl⟩ := ry; exact PySem.EqMixed.ne_bool_str (fin_bl I q (by simp))
    | _ => exact absurd (show false = true from hs) Bool.false_ne_true
  | int i =>
    obtain ⟨t, rfl⟩ := rx
    cases y with
    | non => cases ry; exact PySem.EqNone.ne_int_none (fin_bl I q (by simp))
    | int j => obtain ⟨t', rfl⟩ := ry; exact ne_int (fin_bl I q (congrArg not dec_int))
    | str j => obtain ⟨t', rfl⟩ := ry; exact PySem.EqMixed.ne_int_str (fin_bl I q (by simp))
    | _ => exact absurd (show false = true from hs) Bool.false_ne_true
  | str i =>
    obtain ⟨t, rfl⟩ := rx
    cases y with
    | non => cases ry; exact PySem.EqNone.ne_str_none (fin_bl I q (by simp))
    | bl j => cases ry; exact PySem.EqMixed.ne_str_bool (fin_bl I q (by simp))
    | int j => obtain ⟨t', rfl⟩ := ry; exact PySem.EqMixed.ne_str_int (fin_bl I q (by simp))
    | str j => obtain ⟨t', rfl⟩ := ry; exact ne_str (fin_bl I q (congrArg not dec_str))
    | _ => exact absurd (show false = true from hs) Bool.false_ne_true
  | byt i =>
    obtain ⟨t, rfl⟩ := rx
    cases y with
    | byt j => obtain ⟨t', rfl⟩ := ry; exact PySem.W.ne_bytes (fin_bl I q (congrArg not dec_byt))
    | _ => exact absurd (show false = true from hs) Bool.false_ne_true
  | _ => cases y <;> exact absurd (show false = true from hs) Bool.false_ne_true

theorem op_lt : OpR X (compareOp .Lt) (rI0 fun i j => .bl (decide (i < j))) := opB0 fun _ _ _ _ _ _ _ q => lt_int q
theorem op_gt : OpR X (compareOp .Gt) (rI0 fun i j => .bl (decide (j < i))) := opB0 fun _ _ _ _ _ _ _ q => gt_int q
/-- is None, is not None: the right side a value none -/
theorem op_isN : OpR X (compareOp .Is) (fun x y H Q => y = .non ∧ Q (.bl (decide (x = .non))) H) := by
  intro pins s σ H x y v u Q I rx ry h
  obtain ⟨rfl, q⟩ := h
  cases ry
  refine is_none_gen (fin_bl I q ?_)
  cases x <;> first
    | (cases rx; rfl)
    | (obtain ⟨t, rfl⟩ := rx; rfl)
theorem op_notN : OpR X (compareOp .IsNot) (fun x y H Q => y = .non ∧ Q (.bl (!decide (x = .non))) H) := by
  intro pins s σ H x y v u Q I rx ry h
  obtain ⟨rfl, q⟩ := h
  cases ry
  refine isnot_none_gen (fin_bl I q ?_)
  cases x <;> first
    | (cases rx; rfl)
    | (obtain ⟨t, rfl⟩ := rx; rfl)

/-- is, is not of two objects that are tracked lists or instances -/
def isObj : HO → Bool
  | .lst _ => true
  | .ins _ _ _ => true
  | _ => false
theorem nomark (b : Expr) {op : CmpOp} (h : op ≠ .In := by decide) (h2 : op ≠ .NotIn := by decide) : behindInMarks op b = false := by
  have e1 : (op == CmpOp.In) = false := by cases op <;> first | rfl | exact absurd rfl h
  have e2 : (op == CmpOp.NotIn) = false := by cases op <;> first | rfl | exact absurd rfl h2
  cases b <;> simp [behindInMarks, e1, e2]
/-- a comparison as a value; hm: nomark b, or (for in, not in) by with_unfolding_all rfl -/
theorem pe_cmpR {op : CmpOp} {r : R2} (ho : OpR X (compareOp op) r) (ha : PE X a ta) (hb : PE X b tb) (hm : behindInMarks op b = false) : PE X (.Compare a [op] [b] pos) (tOp r ta tb) := by
  intro pins s σ H Q I h
  exact wpAny_Compare1 (binT ha hb I h fun v u s2 x y H2 I2 rx ry q => ho pins s2 σ H2 x y v u Q I2 rx ry q) hm
/-- a reading of a value as a test -/
def tTest (t : TE) : TT := fun σ H Q => t σ H fun x H' => ∃ k, x = .bl k ∧ Q k H'
theorem pt_cmpR {op : CmpOp} {r : R2} (ho : OpR X (compareOp op) r) (ha : PE X a ta) (hb : PE X b tb) (hm : behindInMarks op b = false) : PT X (.Compare a [op] [b] pos) (tTest (tOp r ta tb)) := by
  intro pins s σ H Q I h
  refine wpAny_isTrue_Compare1 (thn (ha pins s σ H _ I h) fun v s1 ⟨x, H1, I1, r1, q1⟩ => thn (hb pins s1 σ H1 _ I1 q1) fun u s2 ⟨y, H2, I2, r2, q2⟩ =>
    thn (ho pins s2 σ H2 x y v u _ I2 r1 r2 q2) fun c s3 ⟨z, H3, I3, r3, k, e, q3⟩ => ?_) hm
  subst e
  cases r3
  exact wpAny_truthy_bool ⟨H3, I3, q3⟩
/-- a op1 b op2 c -/
def tChain (r r' : R2) (ta tb tc : TE) : TE := fun σ H Q => ta σ H fun x H1 => tb σ H1 fun y H2 => r x y H2 fun z H3 => ∃ k, z = .bl k ∧
  (if k = true then tc σ H3 fun w' H4 => r' y w' H4 Q else Q (.bl false) H3)
/-! ### truth -/
/-- a value's truth by the abstract heap -/
def TruV (K : PySem.W.Frag) (x : V) (H : Hp) (k : Bool) : Prop :=
  match x with
  | .non => k = false
  | .bl b => k = b
  | .int i => k = (i != 0)
  | .str y => y.length ≤ sizeLine ∧ k = ((y.length : Int) != 0)
  | .byt y => y.size ≤ sizeLine ∧ k = ((y.size : Int) != 0)
  | .ref p => (∃ xs, SqL K H p xs ∧ k = !xs.isEmpty) ∨ (∃ xs, SqT K H p xs ∧ k = !xs.isEmpty) ∨ ∃ kvs, H p = some (.dK kvs) ∧ k = !kvs.isEmpty
  | _ => False
theorem line63 : (sizeLine : Nat) < 2 ^ 63 := by rw [sizeLine_eq]; decide
/-! ### strs and bytes -/
theorem op_add_str : OpR X (binaryOp .Add) (fun x y H Q => ∃ i j, x = .str i ∧ y = .str j ∧ i.length + j.length ≤ sizeLine ∧ Q (.str (i ++ j)) H) := by
  intro pins s σ H x y v u Q I rx ry h
  obtain ⟨i, j, rfl, rfl, hz, q⟩ := h
  obtain ⟨t, rfl⟩ := rx
  obtain ⟨t', rfl⟩ := ry
  exact add_str (fun t' tk => ⟨.str (i ++ j), H, I.tok _, ⟨_, rfl⟩, q⟩) hz
def PlainIxT (b : Expr) : Prop := ∀ o i, subscripted b false o i = operate [o, i] (getItem o i)
/-! ### scalar builtins, by CallR -/
theorem vals1 {x : V} {us : List Value} (r : Vals [x] us) : ∃ u, us = [u] ∧ RelV x u := by
  cases r with
  | cons r1 r2 => cases r2; exact ⟨_, rfl, r1⟩
theorem vals2 {x y : V} {us : List Value} (r : Vals [x, y] us) : ∃ u w', us = [u, w'] ∧ RelV x u ∧ RelV y w' := by
  cases r with
  | cons r1 r2 =>
    cases r2 with
    | cons r3 r4 => cases r4; exact ⟨_, _, rfl, r1, r3⟩
theorem call_abs : CallR X (.builtin "abs") (fun xs H Q => ∃ i, xs = [.int i] ∧ Q (.int (if i < 0 then -i else i)) H) := by
  intro pins s σ H xs us Q I r h
  obtain ⟨i, rfl, q⟩ := h
  obtain ⟨u, rfl, t, rfl⟩ := vals1 r
  exact call_abs_int fun u tk => ⟨.int (if i < 0 then -i else i), H, I.tok _, ⟨_, rfl⟩, q⟩
theorem call_max2 (hc : X.calm = true) : CallR X (.builtin "max") (fun xs H Q => ∃ i j, xs = [.int i, .int j] ∧ Q (.int (if j > i then j else i)) H) := by
  intro pins s σ H xs us Q I r h
  obtain ⟨i, j, rfl, q⟩ := h
  obtain ⟨u, w', rfl, ⟨t, rfl⟩, ⟨t', rfl⟩⟩ := vals2 r
  refine max_two_ints (I.ok.hd hc) fun h' tk k => ⟨_, H, I.kept k, ?_, q⟩
  by_cases hj : j > i
  · rw [if_pos hj, if_pos hj]; exact ⟨_, rfl⟩
  · rw [if_neg hj, if_neg hj]; exact ⟨_, rfl⟩
theorem call_min2 (hc : X.calm = true) : CallR X (.builtin "min") (fun xs H Q => ∃ i j, xs = [.int i, .int j] ∧ Q (.int (if j < i then j else i)) H) := by
  intro pins s σ H xs us Q I r h
  obtain ⟨i, j, rfl, q⟩ := h
  obtain ⟨u, w', rfl, ⟨t, rfl⟩, ⟨t', rfl⟩⟩ := vals2 r
  refine min_two_ints (I.ok.hd hc) fun h' tk k => ⟨_, H, I.kept k, ?_, q⟩
  by_cases hj : j < i
  · rw [if_pos hj, if_pos hj]; exact ⟨_, rfl⟩
  · rw [if_neg hj, if_neg hj]; exact ⟨_, rfl⟩
/-- len of a str, a bytes, a list, a tuple -/
def LenV (K : PySem.W.Frag) (x : V) (H : Hp) (n : Nat) : Prop :=
  match x with
  | .str y => y.length ≤ sizeLine ∧ n = y.length
  | .byt y => y.size ≤ sizeLine ∧ n = y.size
  | .ref p => (∃ xs, SqL K H p xs ∧ n = xs.length) ∨ ∃ xs, SqT K H p xs ∧ n = xs.length
  | _ => False
end
end L2

namespace L2
open PySem PySem.Spec PyProof.Rows

/-! ### an instance, its attributes a map -/
structure ObjM (h : Heap) (x dx C : Addr) (mA : Str → Option Value) : Prop where
  obj : h.get? x = some (PySem.W.instObj C dx)
  ns : h.Ns1 dx mA
  ne : dx ≠ x

section
variable {prog : Program} {w : World} {A : Around} {E : Value → Shared → Prop} {s : Shared} {K : PySem.W.Frag} {x dx C f : Addr} {mA : Str → Option Value} {name : Str} {v : Value}

end

/-! ### the attributes as a list of pairs -/
def putF (f : Str) (v : V) : List (Str × V) → List (Str × V)
  | [] => [(f, v)]
  | (g, x) :: r => if g = f then (g, v) :: r else (g, x) :: putF f v r
section
variable {P : Program} {w : World} {H H' : Hp} {h h' : Heap} {a C dx : Addr} {fs fs' : List (Str × V)}
end

/-! ### what of the text a class must have -/
structure Cls (K : PySem.W.Frag) (C : Addr) : Prop where
  pg : PySem.W.plainGet K C Str.empty = true
  hd : PySem.W.hasDictIn K C = true
  po : PySem.W.plainOver K C = true
  sa : PySem.W.findIn K (.ref C) "__setattr__" = some (some (.builtin "object.__setattr__"))
/-- no class of it has the name -/
def NoAttr (K : PySem.W.Frag) (C : Addr) (f : Str) : Prop := PySem.W.findIn K (.ref C) f = some none
/-- a constant of the class -/
structure Con (K : PySem.W.Frag) (C : Addr) (f : Str) (v : V) (u : Value) : Prop where
  at_ : PySem.W.findIn K (.ref C) f = some (some u)
  rel : RelV v u
  get : PySem.W.specialIn K u "__get__" = some none
  cp : PySem.W.copiedNames.contains f = false
/-- a method: a plain def of the class or of one above it -/
structure Meth (K : PySem.W.Frag) (C : Addr) (m : Str) (f : Addr) : Prop where
  at_ : PySem.W.findIn K (.ref C) m = some (some (.ref f))
  fn : PySem.W.isFn K (.ref f) = true
  kp : PySem.W.keepIn K (.ref f) = true

section
variable {X : Cx} {pins : List (Addr × Obj)} {σ : St} {H : Hp} {s : Shared} {a C dx : Addr} {fs : List (Str × V)} {f : Str} {v : V} {A : Around} {E : Value → Shared → Prop}

end

/-! ### readings and rules -/
/-- e.f, an attribute of the instance -/
def tFld (K : PySem.W.Frag) (ta : TE) (f : Str) : TE := fun σ H Q => ta σ H fun x H1 => ∃ a C dx fs v, x = .ref a ∧ H1 a = some (.ins C dx fs) ∧ Cls K C ∧ NoAttr K C f ∧ fs.lookup f = some v ∧ Q v H1
/-- e.f, a constant of the class -/
def tCon (K : PySem.W.Frag) (ta : TE) (f : Str) : TE := fun σ H Q => ta σ H fun x H1 => ∃ a C dx fs v u, x = .ref a ∧ H1 a = some (.ins C dx fs) ∧ Cls K C ∧ Con K C f v u ∧ fs.lookup f = none ∧ Q v H1
/-- e.f = value -/
def sFld (K : PySem.W.Frag) (ta tv : TE) (f : Str) : TS := fun D σ H => tv σ H fun y H1 => ta σ H1 fun x H2 => ∃ a C dx fs, x = .ref a ∧ H2 a = some (.ins C dx fs) ∧ Cls K C ∧ NoAttr K C f ∧ fs.length < 1000 ∧
  D.nx σ (upd H2 a (.ins C dx (putF f y fs)))
/-- an augmented operator on two values -/
def InOp (X : Cx) (op : Operator) (rd : V → V → Hp → VK → Prop) : Prop :=
  ∀ (pins : List (Addr × Obj)) (s : Shared) (σ : St) (H : Hp) (x y : V) (u v : Value) (Q : VK), Inv X pins σ H s → RelV x u → RelV y v → rd x y H Q → wpAny (model X.prog X.w) X.A (inplaceOp op u v) (EP X pins σ Q) X.xe s
/-- e.f op= value -/
def sFldAug (K : PySem.W.Frag) (ta tv : TE) (rd : V → V → Hp → VK → Prop) (f : Str) : TS := fun D σ H => ta σ H fun x H1 => ∃ a C dx fs v, x = .ref a ∧ H1 a = some (.ins C dx fs) ∧ Cls K C ∧ NoAttr K C f ∧ fs.lookup f = some v ∧
  tv σ H1 fun y H2 => rd v y H2 fun z H3 => ∃ dx' fs', H3 a = some (.ins C dx' fs') ∧ fs'.length < 1000 ∧ D.nx σ (upd H3 a (.ins C dx' (putF f z fs')))

section
variable {X : Cx} {o e value : Expr} {f : Str} {pos pos' tpos : Pos} {ta tv : TE}
def rAdd : V → V → Hp → VK → Prop := fun x y H Q => ∃ i j, x = .int i ∧ y = .int j ∧ Q (.int (i + j)) H
def rSub : V → V → Hp → VK → Prop := fun x y H Q => ∃ i j, x = .int i ∧ y = .int j ∧ Q (.int (i - j)) H
end

/-! ### isinstance -/
section
variable {X : Cx} {pins : List (Addr × Obj)} {σ : St} {H : Hp} {s : Shared} {A : Around} {E : Value → Shared → Prop} {Q : Value → Shared → Prop} {c : Value} {b : Bool}
/-- the type of a value, as the fragment's deciders take it; for an instance its class -/
inductive TyOf (K : PySem.W.Frag) (H : Hp) : V → Value → Prop where
  | non : TyOf K H .non (.type "NoneType")
  | bl (x : Bool) : TyOf K H (.bl x) (.type "bool")
  | int (i : Int) : TyOf K H (.int i) (.type "int")
  | str (x : Str) : TyOf K H (.str x) (.type "str")
  | flt (x : UInt64) : TyOf K H (.flt x) (.type "float")
  | lst {a : Addr} {xs : List V} (e : H a = some (.lst xs)) : TyOf K H (.ref a) (.type "list")
  | frz {a : Addr} {o : Obj} {xs : List V} (e : H a = some (.frz o (.lst xs))) : TyOf K H (.ref a) (.type "list")
  | tup {a : Addr} {xs : List V} (e : H a = some (.tup xs)) : TyOf K H (.ref a) (.type "tuple")
  | dK {a : Addr} {kvs : List (Key × V)} (e : H a = some (.dK kvs)) : TyOf K H (.ref a) (.type "dict")
  | dT {a : Addr} {kvs : List (List Key × V)} (e : H a = some (.dT kvs)) : TyOf K H (.ref a) (.type "dict")
  | ins {a C dx : Addr} {fs : List (Str × V)} (e : H a = some (.ins C dx fs)) (cl : Cls K C) (ha : PySem.W.findIn K (.ref C) "__class__" = some (some (.builtin "object.__class__")))
      (hn : PySem.W.specialIn K (.builtin "object.__class__") "__get__" = some (some (.builtin "getset_descriptor.__get__"))) (htk : PySem.W.takesIn K (.builtin "object.__class__") = some true)
      (hm : PySem.W.mroIn K C (.type "object") = some true) : TyOf K H (.ref a) (.ref C)
end
end L2

namespace L2
open PySem PySem.Spec PyProof.Rows

/-! ### room -/
structure Room (k : Nat) (A : Around) : Prop where
  hd : A.handled = none
  dp : A.depth + 3 * k + 5 < recursionLimit
  un : A.units + 16 * k + 200 < cLine
theorem Room.mono {j k : Nat} {A : Around} (r : Room k A) (h : j ≤ k) : Room j A := ⟨r.hd, by have := r.dp; omega, by have := r.un; omega⟩
theorem Room.deeper {k : Nat} {A : Around} (r : Room (k + 1) A) (env : Env) : Room k (A.deeper env) :=
  ⟨r.hd, by have := r.dp; show A.depth + 1 + 3 * k + 5 < _; omega, by have := r.un; show A.units + 3 + 16 * k + 200 < _; omega⟩
theorem Room.depth {k : Nat} {A : Around} (r : Room k A) : A.depth < recursionLimit := by have := r.dp; omega
theorem Room.units {k : Nat} {A : Around} (r : Room k A) : A.units + 64 < cLine := by have := r.un; omega
/-! ### argument lists and displays -/
def tNil : TA := fun _ H Q => Q [] H
def tCons (ta : TE) (tr : TA) : TA := fun σ H Q => ta σ H fun x H1 => tr σ H1 fun xs H2 => Q (x :: xs) H2
section
variable {X : Cx} {e : Expr} {es : List Expr} {te : TE} {t : TA} {pos : Pos}
theorem pa_nil : PA X [] tNil := fun _ _ _ _ H Q I h => Calls.spliced_nil ⟨[], H, I, .nil, h⟩
theorem pa_cons (ha : PE X e te) (hr : PA X es t) (hs : starEach (e :: es) X.env = (false, eval e X.env) :: starEach es X.env := by rfl) : PA X (e :: es) (tCons te t) := by
  intro pos pins s σ H Q I h
  rw [hs]
  show wpAny _ _ (spliced ((false, eval e X.env) :: backTo pos (starEach es X.env))) _ _ s
  refine Calls.spliced_cons (thn (ha pins s σ H _ I h) fun u s1 ⟨x, H1, I1, r1, q1⟩ => ?_)
  exact thn (hr pos pins s1 σ H1 _ I1 q1) fun us s2 ⟨xs, H2, I2, r2, q2⟩ => ⟨x :: xs, H2, I2, .cons r1 r2, q2⟩

/-- a tuple, a list of written items -/
def tTup (t : TA) : TE := fun σ H Q => t σ H fun xs H1 => xs.length ≤ sizeLine ∧ ∀ p, H1 p = none → Q (.ref p) (upd H1 p (.tup xs))
def tLst (t : TA) : TE := fun σ H Q => t σ H fun xs H1 => xs.length ≤ sizeLine ∧ ∀ p, H1 p = none → Q (.ref p) (upd H1 p (.lst xs))
theorem pe_tup {x1} (h : PA X es t) : PE X (.Tuple es x1 pos) (tTup t) := by
  intro pins s σ H Q I hq
  refine wpAny_Tuple_spliced (thn (h pos pins s σ H _ I hq) fun us s1 ⟨xs, H1, I1, r, z, q⟩ => ⟨by rw [← r.length]; exact z, ?_⟩)
  have hf : H1 s1.heap.objs.size = none := I1.hok.fresh (Nat.le_refl _)
  refine ⟨.ref s1.heap.objs.size, upd H1 s1.heap.objs.size (.tup xs), I1.laid (t' := s1.toks) (fun b u e => Heap.get?_push_of_some _ e) (Nat.le_refl _) ?_, rfl, q _ hf⟩
  exact ⟨z, us, r, ⟨_, Heap.get?_push_size _ rfl, rfl, _, rfl⟩⟩
theorem pe_lst (h : PA X es t) : PE X (.List es pos) (tLst t) := by
  intro pins s σ H Q I hq
  refine wpAny_List_spliced (thn (h pos pins s σ H _ I hq) fun us s1 ⟨xs, H1, I1, r, z, q⟩ => ⟨by rw [← r.length]; exact z, ?_⟩)
  have hf : H1 s1.heap.objs.size = none := I1.hok.fresh (Nat.le_refl _)
  refine ⟨.ref s1.heap.objs.size, upd H1 s1.heap.objs.size (.lst xs), I1.laid (t' := s1.toks) (fun b u e => Heap.get?_push_of_some _ e) (Nat.le_refl _) ?_, rfl, q _ hf⟩
  exact ⟨z, us, 0, r, Heap.get?_push_size _ rfl⟩
end

/-! ### what a def promises -/
/-- a def's promise: the bound arguments in the parameters' order, the heap, the wanted end, the wanted exception -/
abbrev Sp := List V → Hp → VK → XK → Prop
/-- how an exception lies behind a call (file 08 gives it): the callers' frames, abstract heap and state ahead of the call, the wish, the exception, the state -/
abbrev CXT := List Env → Hp → Shared → XK → Value → Shared → Prop

/-- the state at a call -/
structure Env0 (P : Program) (w : World) (K : PySem.W.Frag) (mg : Str → Option Value) (base : Heap) (A : Around) (outer : List Env) (s : Shared) (H : Hp) : Prop where
  frames : A.frames = some outer
  mod : Mod K mg base
  bs : ∀ b o, base.get? b = some o → s.heap.get? b = some o ∧ H b = none
  bsz : base.objs.size ≤ s.heap.objs.size
  funs : s.heap.FunFrames base outer
  frf : ∀ b ∈ frs outer, H b = none
  hok : HOk P w H s.heap
  bare : AllBare s.gens
/-- a call's end -/
def CE (outer : List Env) (P : Program) (w : World) (H : Hp) (s : Shared) (Q : VK) (u : Value) (s' : Shared) : Prop :=
  ∃ v H', s'.os = s.os ∧ AllBare s'.gens ∧ Un (frs outer) [] H H' s.heap s'.heap ∧ HOk P w H' s'.heap ∧ RelV v u ∧ Q v H'
def CR (CX : CXT) (outer : List Env) (P : Program) (w : World) (H : Hp) (s : Shared) (Q : VK) (E : XK) (r : Result) (s' : Shared) : Prop :=
  match r with
  | .ok (.ret u) => CE outer P w H s Q u s'
  | .ok _ => False
  | .error e => CX outer H s E e s'
structure FnOk (P : Program) (w : World) (K : PySem.W.Frag) (mg : Str → Option Value) (base : Heap) (CX : CXT) (k : Nat) (f : Addr) (fd : FuncData) (ps : List Str) (sp : Sp) : Prop where
  len : ∀ vs H Q E, sp vs H Q E → vs.length = ps.length
  run : ∀ (A : Around) (outer : List Env) (s : Shared) (H : Hp) (args : Args) (us : List Value) (vs : List V) (Q : VK) (E : XK), Room k A → Env0 P w K mg base A outer s H → BindsTo s fd args (ps.zip us) → Vals vs us → sp vs H Q E →
    codeAny (model P w) A (.call (.ref f) args) (CR CX outer P w H s Q E) s
theorem FnOk.mono {P : Program} {w : World} {K : PySem.W.Frag} {mg : Str → Option Value} {base : Heap} {CX : CXT} {j k : Nat} {f : Addr} {fd : FuncData} {ps : List Str} {sp : Sp} (F : FnOk P w K mg base CX j f fd ps sp) (h : j ≤ k) :
    FnOk P w K mg base CX k f fd ps sp := ⟨F.len, fun A outer s H args us vs Q E hr => F.run A outer s H args us vs Q E (hr.mono h)⟩
section
variable {X : Cx} {pins : List (Addr × Obj)} {σ : St} {H : Hp} {s s' : Shared}
/-- from a body: what a callee wants -/
theorem Inv.env0 (I : Inv X pins σ H s) : Env0 X.prog X.w X.K X.mg X.base X.A X.stack s H :=
  ⟨I.ok.frames, I.ok.mod, I.bs, Nat.le_trans I.ok.bsz I.sz, I.stack, I.stkFree, I.hok, I.bare⟩
/-- behind a call -/
theorem Inv.after {Q : VK} {u : Value} (I : Inv X pins σ H s) (h : CE X.stack X.prog X.w H s Q u s') : EP X pins σ Q u s' := by
  obtain ⟨v, H', os, bare, un, hok, r, q⟩ := h
  obtain ⟨hh, g, d, t, os'⟩ := s'
  obtain rfl : os' = s.os := os
  exact ⟨v, H', I.call (h' := hh) (g' := g) (d' := d) (t' := t) (ch := []) un hok bare (fun b z => absurd z (by simp)), r, q⟩
end

/-! ### calls -/
/-- f(..): the written arguments, then the defaults dvs; E: what is wanted of an exception -/
def tCall (sp : Sp) (dvs : List V) (E : XK) (t : TA) : TE := fun σ H Q => t σ H fun vs H1 => sp (vs ++ dvs) H1 Q E
/-- o.m(..) of an instance of the class at C -/
def tMeth (C : Addr) (m : Str) (sp : Sp) (dvs : List V) (E : XK) (ta : TE) (t : TA) : TE := fun σ H Q => ta σ H fun x H1 => ∃ a dx fs, x = .ref a ∧ H1 a = some (.ins C dx fs) ∧ fs.lookup m = none ∧
  t σ H1 fun vs H2 => sp (x :: (vs ++ dvs)) H2 Q E
/-- C(..): a new instance and its dict, then __init__ -/
def tMake (C : Addr) (sp : Sp) (dvs : List V) (E : XK) (t : TA) : TE := fun σ H Q => t σ H fun vs H1 => ∀ x dx, H1 x = none → H1 dx = none → dx ≠ x →
  sp (.ref x :: (vs ++ dvs)) (upd (upd H1 dx (.own x)) x (.ins C dx [])) (fun v H2 => v = .non ∧ Q (.ref x) H2) E

/-- how the parameters are bound: us the positional arguments, kw the keywords' values by name, ds the defaults that fill up -/
def Binds (K : PySem.W.Frag) (fd : FuncData) (ps : List Str) (ds : List Value) : Prop :=
  ∀ (s : Shared) (us : List Value), K.In s.heap → (us ++ ds).length = ps.length → BindsTo s fd ⟨us, []⟩ (ps.zip (us ++ ds))
/-- every parameter is given -/
theorem Binds.all {K : PySem.W.Frag} {fd : FuncData} {ps : List Str} (h : ∀ us : List Value, us.length = ps.length → bindArgs fd ⟨us, []⟩ = pure (ps.zip us)) : Binds K fd ps [] := fun s us _ hl => by
  rw [List.append_nil] at hl ⊢
  exact .of_eq (h us hl)

/-- an exception of a callee reaches what this body wants of exceptions -/
def Passes (CX : CXT) (X : Cx) (E : XK) : Prop := ∀ (pins : List (Addr × Obj)) (σ : St) (H : Hp) (s : Shared) (e : Value) (s' : Shared), Inv X pins σ H s → CX X.stack H s E e s' → X.xe e s'

section
variable {X : Cx} {CX : CXT} {k : Nat} {f C : Addr} {fd : FuncData} {ps : List Str} {sp : Sp} {dvs : List V} {ds : List Value} {E : XK} {x m : Str} {p pos apos : Pos} {e o : Expr} {es : List Expr} {ta : TE} {t : TA}

/-- the callee runs -/
theorem run_fn {pins : List (Addr × Obj)} {σ : St} {H : Hp} {s : Shared} {Q : VK} {us : List Value} {vs : List V} (F : FnOk X.prog X.w X.K X.mg X.base CX k f fd ps sp) (hr : Room k X.A) (hb : Binds X.K fd ps ds) (hd : Vals dvs ds) (hx : Passes CX X E)
    (I : Inv X pins σ H s) (r : Vals vs us) (h : sp (vs ++ dvs) H Q E) : wpAny (model X.prog X.w) X.A (call (.ref f) us) (EP X pins σ Q) X.xe s := by
  have r2 : Vals (vs ++ dvs) (us ++ ds) := r.append hd
  have hl : (us ++ ds).length = ps.length := by rw [← r2.length]; exact F.len _ _ _ _ h
  refine wpAny_call (codeAny_mono (F.run X.A X.stack s H ⟨us, []⟩ (us ++ ds) (vs ++ dvs) Q E hr I.env0 (hb s us I.kIn hl) r2 h) fun r s' hq => ?_)
  cases r with
  | error e => exact hx pins σ H s e s' I hq
  | ok fl =>
    cases fl with
    | ret u => exact I.after hq
    | next => exact False.elim hq
    | brk => exact False.elim hq
    | cont => exact False.elim hq

theorem pe_call (F : FnOk X.prog X.w X.K X.mg X.base CX k f fd ps sp) (hr : Room k X.A) (hg : Gl X x) (hm : X.mg x = some (.ref f)) (hk : PySem.W.keepIn X.K (.ref f) = true) (hb : Binds X.K fd ps ds) (hd : Vals dvs ds) (hx : Passes CX X E)
    (ha : PA X (e :: es) t) (hdb : (x == ("__debug__" : Str)) = false := by decide) (he : starEach (e :: es) X.env = (false, eval e X.env) :: starEach es X.env := by rfl) (hpl : (backTo pos (starEach es X.env)).any (·.1) = false := by rfl) :
    PE X (.Call (.Name x p) (e :: es) [] pos) (tCall sp dvs E t) := by
  intro pins s σ H Q I h
  refine wpAny_Call_Name_kw (ld_glob I hg hm ?_ hdb)
  refine PySem.W.callWith_K (h₀ := X.base) I.ok.mod.kin hk (thn (ha pos pins s σ H _ I h) fun us s1 ⟨vs, H1, I1, r, q⟩ => ⟨I1.kIn, ?_⟩) he hpl
  exact run_fn F hr hb hd hx I1 r q
/-- what a class must have to be made -/
structure Mk (K : PySem.W.Frag) (C f : Addr) : Prop where
  makes : PySem.W.makesIn K C = true
  init : PySem.W.findIn K (.ref C) "__init__" = some (some (.ref f))
  fn : PySem.W.isFn K (.ref f) = true
  kp : PySem.W.keepIn K (.ref C) = true

end

/-! ### keywords -/
/-- the values of the keywords, from the left -/
def PK (X : Cx) (kws : List Keyword) (t : TA) : Prop :=
  ∀ (pos : Pos) (pins : List (Addr × Obj)) (s : Shared) (σ : St) (H : Hp) (Q : List V → Hp → Prop), Inv X pins σ H s → t σ H Q → wpAny (model X.prog X.w) X.A (evalAll ((backToKw pos (keywordEach kws X.env)).map (·.2))) (AP X pins σ Q) X.xe s
section
variable {X : Cx} {CX : CXT} {k : Nat} {f C : Addr} {fd : FuncData} {ps ks : List Str} {sp : Sp} {E : XK} {x m : Str} {p pos apos kpos : Pos} {e o : Expr} {es : List Expr} {kws : List Keyword} {te ta : TE} {t tk : TA} {nm : Option Str}
/-- how a call with keywords binds: g puts the positional values us and the keywords' values ws (names ks) in the parameters' order, defaults among them -/
structure KBinds (K : PySem.W.Frag) (fd : FuncData) (ps ks : List Str) (g : List Value → List Value → List Value) (gV : List V → List V → List V) : Prop where
  to : ∀ (s : Shared) (us ws : List Value), K.In s.heap → (g us ws).length = ps.length → BindsTo s fd ⟨us, ks.zip ws⟩ (ps.zip (g us ws))
  rel : ∀ {vs : List V} {us : List Value} {zs : List V} {ws : List Value}, Vals vs us → Vals zs ws → Vals (gV vs zs) (g us ws)
def tCallK (sp : Sp) (gV : List V → List V → List V) (E : XK) (t tk : TA) : TE := fun σ H Q => t σ H fun vs H1 => tk σ H1 fun zs H2 => sp (gV vs zs) H2 Q E
variable {g : List Value → List Value → List Value} {gV : List V → List V → List V}
end

/-! ### a def's body keeps its promise -/
/-- names: the parameters first -/
structure FnScope (N P : List Str) (sc : Scope) : Prop where
  kind : sc.kind = .function
  co : sc.isCoroutine = false
  gen : sc.isGenerator = false
  nd : N.Nodup
  pre : N.take P.length = P
  par : ∀ x ∈ P, sc.names.lookup x = some .local ∨ sc.names.lookup x = some .cell
  nofree : ∀ y ∈ sc.names, y.2 ≠ .free

theorem bindL_out {kindOf : Str → Option NameKind} {x : Str} : ∀ {binds : List (Str × Value)} {m : Str → Option Value}, (∀ v, (x, v) ∉ binds) → bindL kindOf binds m x = m x
  | [], _, _ => rfl
  | (n, v) :: r, m, h => by
    unfold bindL
    rw [bindL_out fun w hw => h w (List.mem_cons_of_mem _ hw)]
    split
    · have : x ≠ n := by rintro rfl; exact h v List.mem_cons_self
      simp [this]
    · rfl
theorem bindC_out {kindOf : Str → Option NameKind} {x : Str} : ∀ {binds : List (Str × Value)} {m : Str → Option Value}, (∀ v, (x, v) ∉ binds) → bindC kindOf binds m x = m x
  | [], _, _ => rfl
  | (n, v) :: r, m, h => by
    unfold bindC
    rw [bindC_out fun w hw => h w (List.mem_cons_of_mem _ hw)]
    split
    · rfl
    · have : x ≠ n := by rintro rfl; exact h v List.mem_cons_self
      simp [this]
theorem bindL_get {kindOf : Str → Option NameKind} {x : Str} {v : Value} : ∀ {P : List Str} {vs : List Value} {i : Nat} {m : Str → Option Value}, P.Nodup → P[i]? = some x → vs[i]? = some v → kindOf x = some .local →
    bindL kindOf (P.zip vs) m x = some v
  | [], _, _, _, _, h, _, _ => by simp at h
  | _ :: _, [], _, _, _, _, h, _ => by simp at h
  | p :: P, w :: vs, 0, m, nd, h1, h2, hk => by
    simp at h1 h2; subst h1; subst h2
    show bindL kindOf ((p, w) :: P.zip vs) m p = _
    unfold bindL
    rw [bindL_out fun v hv => (List.nodup_cons.mp nd).1 (List.of_mem_zip hv).1, if_pos hk]
    simp
  | p :: P, w :: vs, i + 1, m, nd, h1, h2, hk => by
    show bindL kindOf ((p, w) :: P.zip vs) m x = _
    unfold bindL
    exact bindL_get (i := i) (List.nodup_cons.mp nd).2 (by simpa using h1) (by simpa using h2) hk
theorem bindC_get {kindOf : Str → Option NameKind} {x : Str} {v : Value} : ∀ {P : List Str} {vs : List Value} {i : Nat} {m : Str → Option Value}, P.Nodup → P[i]? = some x → vs[i]? = some v → kindOf x ≠ some .local →
    bindC kindOf (P.zip vs) m x = some v
  | [], _, _, _, _, h, _, _ => by simp at h
  | _ :: _, [], _, _, _, _, h, _ => by simp at h
  | p :: P, w :: vs, 0, m, nd, h1, h2, hk => by
    simp at h1 h2; subst h1; subst h2
    show bindC kindOf ((p, w) :: P.zip vs) m p = _
    unfold bindC
    rw [bindC_out fun v hv => (List.nodup_cons.mp nd).1 (List.of_mem_zip hv).1, if_neg hk]
    simp
  | p :: P, w :: vs, i + 1, m, nd, h1, h2, hk => by
    show bindC kindOf ((p, w) :: P.zip vs) m x = _
    unfold bindC
    exact bindC_get (i := i) (List.nodup_cons.mp nd).2 (by simpa using h1) (by simpa using h2) hk

/-- the names' values at the entry -/
def start (N : List Str) (vs : List V) : St := vs.map some ++ List.replicate (N.length - vs.length) none

/-- the context of a def's body, at its entry; an exception leaves the frame, then lies as CX says -/
def cxOf (CX : CXT) (P : Program) (w : World) (K : PySem.W.Frag) (mg : Str → Option Value) (base : Heap) (N : List Str) (qual : Str) (scope : Scope) (f : Addr) (cd : Value) (A : Around) (outer : List Env) (s : Shared) (H : Hp) (E : XK) : Cx where
  prog := P
  w := w
  K := K
  mg := mg
  base := base
  A := A.deeper (envOfC qual scope s.heap.objs.size f cd)
  N := N
  s₀ := s
  H₀ := H
  env := envOfC qual scope s.heap.objs.size f cd
  outer := outer
  stack := envOfC qual scope s.heap.objs.size f cd :: outer
  ex := []
  calm := true
  fn := fun _ => true
  pn := []
  xe := fun e s' => wpAny (model P w) (A.deeper (envOfC qual scope s.heap.objs.size f cd)) (leaving (envOfC qual scope s.heap.objs.size f cd) e) (fun _ s'' => CX outer H s E e s'') (fun e' s'' => CX outer H s E e' s'') s'

theorem cell_has {sc : Scope} {n : Nat} {x : Str} (h : sc.names.lookup x = some .cell) : ∃ c, (cellsFrom n sc.names []).lookup x = some c := by
  have q := PySem.W.cellsFrom_some sc.names n [] (.inl h)
  exact Option.isSome_iff_exists.mp q

theorem inv_start {CX : CXT} {P : Program} {w : World} {K : PySem.W.Frag} {mg : Str → Option Value} {base : Heap} {N ps : List Str} {qual : Str} {scope : Scope} {f : Addr} {cd : Value} {A : Around} {outer : List Env} {s s1 : Shared} {H : Hp} {E : XK} {us : List Value} {vs : List V}
    (S : FnScope N ps scope) (hd : A.handled = none) (e0 : Env0 P w K mg base A outer s H) (hl : vs.length = ps.length) (r : Vals vs us)
    (x : InCallC s s.heap.objs.size (bindL (envOfC qual scope s.heap.objs.size f cd).kindOf (ps.zip us) fun _ => none) (cellsFrom (s.heap.objs.size + 1) scope.names []) (bindC (envOfC qual scope s.heap.objs.size f cd).kindOf (ps.zip us) fun _ => none) s1) :
    Inv (cxOf CX P w K mg base N qual scope f cd A outer s H E) [] (start N vs) H s1 := by
  have hpl : ps.length ≤ N.length := by have := congrArg List.length S.pre; rw [List.length_take] at this; omega
  obtain ⟨h1, tk, rfl, hk⟩ := x.done
  have noA : ∀ b : Addr, b ∉ (cxOf CX P w K mg base N qual scope f cd A outer s H E).ex := fun b z => absurd (show b ∈ ([] : List Addr) from z) (by simp)
  refine ⟨⟨e0.mod, S.kind, rfl, rfl, Nat.le_refl _, fun y z c h1 h2 => ?_, fun y hy => ?_, fun y c _ h => ?_, fun _ => hd, Around.frames_deeper e0.frames, .inr ⟨rfl, rfl⟩, fun b z => absurd z (noA b), e0.bs, e0.bsz, fun b _ _ => noA b, fun b z => absurd z (noA b), e0.funs, e0.frf⟩,
    rfl, e0.bare, Un.kept hk, ⟨_, x.toInCall.ns, fun i y v h1 h2 h3 => ?_⟩, fun y c h => ⟨_, x.cell y c h⟩, e0.hok.fresh (Nat.le_refl _), fun y c h => ?_, fun p hp => absurd (show p ∈ ([] : List (Addr × Obj)) from hp) (by simp), e0.hok.kept hk, ?_⟩
  · exact name_of_addr x.apart (PySem.mem_of_lookup h1) (PySem.mem_of_lookup h2)
  · have hy : scope.names.lookup y = some .cell ∨ scope.names.lookup y = some .free := hy
    rcases hy with hy | hy
    · exact cell_has hy
    · exact absurd rfl (S.nofree _ (PySem.mem_of_lookup hy))
  · exact Nat.le_of_lt (x.above y c (PySem.mem_of_lookup h))
  · have hi : i < vs.length := by
      unfold start at h2
      by_cases hi : i < vs.length
      · exact hi
      · rw [List.getElem?_append_right (by simpa using hi)] at h2
        rw [List.getElem?_replicate] at h2
        split at h2 <;> cases h2
    have ha : vs[i]? = some v := by
      unfold start at h2
      rw [List.getElem?_append_left (by simpa using hi), List.getElem?_map] at h2
      cases e : vs[i]? with
      | none => rw [e] at h2; cases h2
      | some a => rw [e] at h2; cases h2; rfl
    obtain ⟨u, hu, rv⟩ := r.get ha
    have hp : ps[i]? = some y := by
      rw [← S.pre, List.getElem?_take_of_lt (by omega)]; exact h1
    have ndP : ps.Nodup := by rw [← S.pre]; exact S.nd.sublist (List.take_sublist _ _)
    refine ⟨u, rv, ?_⟩
    rcases S.par y (List.mem_of_getElem? hp) with k | k
    · exact .inl ⟨k, bindL_get ndP hp hu k⟩
    · obtain ⟨c, e⟩ := cell_has (n := s.heap.objs.size + 1) k
      refine .inr ⟨.inl k, c, e, ?_⟩
      have q := x.cell y c e
      rw [bindC_get ndP hp hu (by show scope.names.lookup y ≠ _; rw [k]; decide)] at q
      exact q
  · exact e0.hok.fresh (Nat.le_of_lt (x.above y c (PySem.mem_of_lookup h)))
  · unfold start
    show _ = N.length
    rw [List.length_append, List.length_map, List.length_replicate]
    omega

/-- THE RULE: a def (or a method) of the text, by its body. The body's reading t is chosen for each entry; it is run at the parameters' values -/
theorem fn_of {CX : CXT} {P : Program} {w : World} {K : PySem.W.Frag} {mg : Str → Option Value} {base : Heap} {k : Nat} {f : Addr} {name qual : Str} {params : Arguments} {body : List Stmt} {scope : Scope} {dV kV doc pm cdv ct oc : Value} {an od : Option Addr}
    {osl : Array (Option Value)} {N ps : List Str} {sp : Sp} (lk : K.lookup f = some ⟨oc, od, .func (PySem.W.fnOf name qual params body scope dV kV doc pm an cdv ct), osl⟩) (hcd : PySem.W.codeIn K cdv qual = true) (S : FnScope N ps scope)
    (len : ∀ vs H Q E, sp vs H Q E → vs.length = ps.length)
    (hbody : ∀ (A : Around) (outer : List Env) (s : Shared) (H : Hp) (vs : List V) (Q : VK) (E : XK), Room k (A.deeper (envOfC qual scope s.heap.objs.size f cdv)) → sp vs H Q E →
      ∃ t, PSs (cxOf CX P w K mg base N qual scope f cdv A outer s H E) body t ∧ t { nx := fun _ H' => Q .non H', rt := Q } (start N vs) H) :
    FnOk P w K mg base CX (k + 1) f (PySem.W.fnOf name qual params body scope dV kV doc pm an cdv ct) ps sp := by
  refine ⟨len, fun A outer s H args us vs Q E hr e0 hb r hsp => ?_⟩
  have hl := len _ _ _ _ hsp
  have KX : K.In s.heap := e0.mod.kin.keeps fun b o e => (e0.bs b o e).1
  have lim : s.heap.NoLimit := e0.mod.nolimit.keeps fun b o e => (e0.bs b o e).1
  have hkind : ∀ y ∈ ps.zip us, scope.names.lookup y.1 = some .local ∨ (scope.names.lookup y.1 = some .cell ∧ ((cellsFrom (s.heap.objs.size + 1) scope.names []).lookup y.1).isSome = true) := fun ⟨n, v⟩ hy => by
    rcases S.par n (List.of_mem_zip hy).1 with q | q
    · exact .inl q
    · exact .inr ⟨q, PySem.W.cellsFrom_some _ _ _ (.inl q)⟩
  refine codeAny_call_function hr.depth (KX _ _ lk) rfl S.co S.gen rfl (PySem.W.codeRec_of KX hcd) (hb _ _ _ _ ?_)
  refine wpAny_newFunctionEnv_cells S.kind hkind fun env he s1 x => ?_
  subst he
  refine ⟨lim.keeps x.toInCall.keep, codeAny_func ?_⟩
  obtain ⟨t, ht, hq⟩ := hbody A outer s H vs Q E (hr.deeper _) hsp
  have I : Inv (cxOf CX P w K mg base N qual scope f cdv A outer s H E) [] (start N vs) H s1 := inv_start S hr.hd e0 hl r x
  refine wpAny_mono (ht [] s1 (start N vs) H _ I hq) (fun fl s' hs => ?_) fun e s' hs => hs
  have fin : ∀ {σ' : St} {H' : Hp} {v : V} {u : Value}, Inv (cxOf CX P w K mg base N qual scope f cdv A outer s H E) [] σ' H' s' → RelV v u → Q v H' → CE outer P w H s Q u s' :=
    fun {σ' H' v u} J rv q => ⟨v, H', J.os, J.bare, J.base, J.hok, rv, q⟩
  cases fl with
  | ret u =>
    obtain ⟨v, σ', H', J, rv, q⟩ := hs
    exact fin J rv q
  | next =>
    obtain ⟨σ', H', J, q⟩ := hs
    exact fin (v := V.non) (u := Value.none) J rfl q
  | brk =>
    obtain ⟨_, _, _, q⟩ := hs
    exact False.elim q
  | cont =>
    obtain ⟨_, _, _, q⟩ := hs
    exact False.elim q
end L2

namespace L2
open PySem PySem.Spec PyProof.Rows
section
variable {X : Cx} {x : Str} {p pos : Pos} {e : Expr} {es : List Expr} {t : TA} {id T : String} {r : List V → Hp → VK → Prop}

def tCB (r : List V → Hp → VK → Prop) (t : TA) : TE := fun σ H Q => t σ H fun vs H1 => r vs H1 Q
/-- f(e, ..), f a built-in function -/
theorem pe_callB (hc : CallR X (.builtin id) r) (hg : Gl X x) (hm : X.mg x = none) (hv : bootBuiltins x = some (.builtin id)) (ha : PA X (e :: es) t) (hn : x ≠ "__name__" := by decide) (hdb : (x == ("__debug__" : Str)) = false := by decide)
    (he : starEach (e :: es) X.env = (false, eval e X.env) :: starEach es X.env := by rfl) (hpl : (backTo pos (starEach es X.env)).any (·.1) = false := by rfl) : PE X (.Call (.Name x p) (e :: es) [] pos) (tCB r t) := by
  intro pins s σ H Q I h
  refine wpAny_Call_Name_kw (ld_blt I hg hm hv ?_ hn hdb)
  exact PyProof.Rows.callWith_builtin1 (thn (ha pos pins s σ H _ I h) fun us s1 ⟨vs, H1, I1, r1, q1⟩ => hc pins s1 σ H1 vs us Q I1 r1 q1) he hpl
/-- T(e, ..), T a built-in type -/
theorem pe_callTy (hc : CallR X (.type T) r) (hg : Gl X x) (hm : X.mg x = none) (hv : bootBuiltins x = some (.type T)) (ha : PA X (e :: es) t) (hn : x ≠ "__name__" := by decide) (hdb : (x == ("__debug__" : Str)) = false := by decide)
    (he : starEach (e :: es) X.env = (false, eval e X.env) :: starEach es X.env := by rfl) (hpl : (backTo pos (starEach es X.env)).any (·.1) = false := by rfl) : PE X (.Call (.Name x p) (e :: es) [] pos) (tCB r t) := by
  intro pins s σ H Q I h
  refine wpAny_Call_Name_kw (ld_blt I hg hm hv ?_ hn hdb)
  exact PyProof.Rows.callWith_type1 (thn (ha pos pins s σ H _ I h) fun us s1 ⟨vs, H1, I1, r1, q1⟩ => hc pins s1 σ H1 vs us Q I1 r1 q1) he hpl
end
end L2

namespace HT
open PySem PyProof.Rows

/-- t < u of tuples of ints -/
def lexLt : List Int → List Int → Bool
  | [], [] => false
  | [], _ :: _ => true
  | _ :: _, [] => false
  | x :: xs, y :: ys => if x = y then lexLt xs ys else decide (x < y)
section
open PySem.SeqAt
open PySem.AutoSeq1 (wpAny_loadPart')
open PySem.MeetsSeq PySem.MeetsSeq2 PySem.MeetsSeq3

end

section
variable {prog : Program} {w : World} {A : Around} {E : Value → Shared → Prop} {s : Shared}

/-! ### t[a:b], not the whole -/
/-- a slice's bound as a place among n (d where it is left out) -/
def sIx (n d : Nat) : Option Int → Nat
  | none => d
  | some v => if v < 0 then (v + (n : Int)).toNat else min v.toNat n
end
end HT

namespace L2
open PySem PySem.Spec PyProof.Rows

/-! ### the parts of a slice -/
abbrev TO := St → Hp → (Option Int → Hp → Prop) → Prop
/-- a slice's part (left out, or an int) -/
def PO (X : Cx) (e : Option Expr) (t : TO) : Prop :=
  ∀ (pins : List (Addr × Obj)) (s : Shared) (σ : St) (H : Hp) (Q : Option Int → Hp → Prop), Inv X pins σ H s → t σ H Q →
    wpAny (model X.prog X.w) X.A (evalPart e X.env) (fun u s' => ∃ o H', Inv X pins σ H' s' ∧ IsPart u o ∧ Q o H') X.xe s
def tNoPart : TO := fun _ H Q => Q none H
def tPart (t : TE) : TO := fun σ H Q => t σ H fun x H1 => ∃ i, x = .int i ∧ Q (some i) H1

section
variable {X : Cx} {e : Expr} {te : TE} {lo hi : Option Expr} {tl th : TO} {pos p2 : Pos}

theorem po_none : PO X none tNoPart := by
  intro pins s σ H Q I h
  rw [evalPart_none]
  exact wpAny_pure ⟨none, H, I, .none, h⟩
theorem po_some (h : PE X e te) : PO X (some e) (tPart te) := by
  intro pins s σ H Q I hw
  rw [evalPart_some]
  refine thn (h pins s σ H _ I hw) fun u s1 ⟨x, H1, I1, r1, q1⟩ => ?_
  obtain ⟨i, rfl, q⟩ := q1
  obtain ⟨t, rfl⟩ := r1
  exact ⟨some i, H1, I1, .int i t, q⟩

/-- what a slice of a value is, by values: the slice object stands at sl -/
def SlR (X : Cx) (r : V → Option Int → Option Int → Hp → VK → Prop) : Prop :=
  ∀ (pins : List (Addr × Obj)) (s : Shared) (σ : St) (H : Hp) (x : V) (v vl vu : Value) (lo hi : Option Int) (sl : Addr) (Q : VK), Inv X pins σ H s → RelV x v → s.heap.IsSliceOf sl vl vu .none → IsPart vl lo → IsPart vu hi → r x lo hi H Q →
    ∃ T id, typeLookup (.type T) "__getitem__" = pure (some (.builtin id)) ∧ s.TypeIs v T ∧ wpAny (model X.prog X.w) X.A (getItem v (.ref sl)) (EP X pins σ Q) X.xe s
def tSl (r : V → Option Int → Option Int → Hp → VK → Prop) (te : TE) (tl th : TO) : TE := fun σ H Q => te σ H fun x H1 => tl σ H1 fun l H2 => th σ H2 fun u H3 => r x l u H3 Q
/-- a[lo:hi], any a -/
theorem pe_slice {r : V → Option Int → Option Int → Hp → VK → Prop} (hr : SlR X r) (he : PE X e te) (hl : PO X lo tl) (hu : PO X hi th) : PE X (.Subscript e (.Slice lo hi none p2) pos) (tSl r te tl th) := by
  intro pins s σ H Q I h
  refine Subscript_ (thn (he pins s σ H _ I h) fun v s1 ⟨x, H1, I1, r1, q1⟩ => ?_)
  refine wpAny_Slice (thn (hl pins s1 σ H1 _ I1 q1) fun vl s2 ⟨l, H2, I2, pl, q2⟩ => thn (hu pins s2 σ H2 _ I2 q2) fun vu s3 ⟨u, H3, I3, pu, q3⟩ => ?_)
  rw [evalPart_none]
  refine wpAny_pure ?_
  have I4 : Inv X pins σ H3 { s3 with heap := s3.heap.push { cls := .type "slice", data := .fields #[vl, vu, .none] } } := I3.kept (t' := s3.toks) fun b ob q => Heap.get?_push_of_some _ q
  obtain ⟨T, id, hT, ht, hg⟩ := hr pins { s3 with heap := s3.heap.push { cls := .type "slice", data := .fields #[vl, vu, .none] } } σ H3 x v vl vu l u s3.heap.objs.size Q I4 r1 (Heap.IsSliceOf.new ..) pl pu q3
  show wpAny (model X.prog X.w) X.A (subscriptTail e (.Slice lo hi none p2) v (.ref s3.heap.objs.size)) (EP X pins σ Q) X.xe { s3 with heap := s3.heap.push { cls := .type "slice", data := .fields #[vl, vu, .none] } }
  exact tail_any (ops := [.ref s3.heap.objs.size, v]) ht hT hg (by with_unfolding_all rfl)

/-- the items of xs[lo:hi] -/
def cutV (xs : List V) (lo hi : Option Int) : List V := (xs.drop (HT.sIx xs.length 0 lo)).take (HT.sIx xs.length xs.length hi - HT.sIx xs.length 0 lo)
theorem cutV_length (xs : List V) (lo hi : Option Int) : (cutV xs lo hi).length ≤ xs.length := by
  unfold cutV
  rw [List.length_take, List.length_drop]
  omega
/-- t[lo:hi], not the whole of it (the whole would be t itself) -/
def rSlT (K : PySem.W.Frag) : V → Option Int → Option Int → Hp → VK → Prop := fun x lo hi H Q => ∃ a xs, x = .ref a ∧ SqT K H a xs ∧
  ¬ (HT.sIx xs.length 0 lo = 0 ∧ HT.sIx xs.length xs.length hi = xs.length) ∧ ∀ p, H p = none → Q (.ref p) (upd H p (.tup (cutV xs lo hi)))
/-! ### t < u, t + u -/
def rLtT (K : PySem.W.Frag) : R2 := fun x y H Q => ∃ a b ns ms, x = .ref a ∧ y = .ref b ∧ SqT K H a (ns.map V.int) ∧ SqT K H b (ms.map V.int) ∧ Q (.bl (HT.lexLt ns ms)) H
/-- t + u, t not empty: u empty gives t itself -/
def rCatT (K : PySem.W.Frag) : R2 := fun x y H Q => ∃ a b xs ys, x = .ref a ∧ y = .ref b ∧ SqT K H a xs ∧ SqT K H b ys ∧ xs ≠ [] ∧ xs.length + ys.length ≤ sizeLine ∧
  (ys = [] → Q (.ref a) H) ∧ (ys ≠ [] → ∀ p, H p = none → Q (.ref p) (upd H p (.tup (xs ++ ys))))
end
end L2

namespace L2
open PySem PySem.Spec PyProof.Rows

/-! ### places -/
/-- the place that an index of any sign means -/
def ixN (n : Nat) (i : Int) : Option Nat := if 0 ≤ i then (if i < n then some i.toNat else none) else if -(n : Int) ≤ i then some (i + n).toNat else none
def atI {α : Type} (xs : List α) (i : Int) : Option α := (ixN xs.length i).bind fun j => xs[j]?
theorem ixN_seq {n : Nat} {i : Int} {j : Nat} (h : ixN n i = some j) : seqIndex? i n = some j ∧ j < n ∧ -(n : Int) ≤ i ∧ i < n := by
  unfold ixN at h
  by_cases h0 : 0 ≤ i
  · rw [if_pos h0] at h
    by_cases h1 : i < n
    · rw [if_pos h1] at h
      have e : i.toNat = j := Option.some.inj h
      exact ⟨by rw [seqIndex_of h0 h1, e], by omega, by omega, h1⟩
    · rw [if_neg h1] at h; cases h
  · rw [if_neg h0] at h
    by_cases h1 : -(n : Int) ≤ i
    · rw [if_pos h1] at h
      have e : (i + n).toNat = j := Option.some.inj h
      exact ⟨by rw [seqIndex_neg (by omega) h1, e], by omega, h1, by omega⟩
    · rw [if_neg h1] at h; cases h
theorem atI_get {α : Type} {xs : List α} {i : Int} {v : α} (h : atI xs i = some v) : ∃ j, seqIndex? i xs.length = some j ∧ xs[j]? = some v ∧ j < xs.length ∧ -(xs.length : Int) ≤ i ∧ i < xs.length := by
  unfold atI at h
  cases e : ixN xs.length i with
  | none => rw [e] at h; cases h
  | some j =>
    rw [e] at h
    obtain ⟨h1, h2, h3, h4⟩ := ixN_seq e
    exact ⟨j, h1, h, h2, h3, h4⟩
theorem atI_nat {α : Type} {xs : List α} {j : Nat} {v : α} (h : xs[j]? = some v) : atI xs (j : Int) = some v := by
  have hj : j < xs.length := (List.getElem?_eq_some_iff.mp h).1
  have e : ixN xs.length (j : Int) = some j := by
    unfold ixN
    rw [if_pos (by omega), if_pos (by omega)]; simp
  unfold atI; rw [e]; exact h
/-! ### what may be subscripted -/
/-- what stands as an index of a plain subscript -/
def PlainIx (b : Expr) : Prop := ∀ o i, subscripted b false o i = operate [o, i] (getItem o i)
/-- a subscript by values -/
def IxR (X : Cx) (r : R2) : Prop :=
  ∀ (value slice : Expr) (pins : List (Addr × Obj)) (s : Shared) (σ : St) (H : Hp) (x y : V) (v u : Value) (Q : VK), Inv X pins σ H s → RelV x v → RelV y u → r x y H Q →
    subscripted slice false v u = operate [v, u] (getItem v u) → wpAny (model X.prog X.w) X.A (subscriptTail value slice v u) (EP X pins σ Q) X.xe s
/-- a call of a builtin's method by values: the receiver, the arguments -/
def MtR (X : Cx) (id : String) (r : V → List V → Hp → VK → Prop) : Prop :=
  ∀ (pins : List (Addr × Obj)) (s : Shared) (σ : St) (H : Hp) (x : V) (xs : List V) (v : Value) (us : List Value) (Q : VK), Inv X pins σ H s → RelV x v → Vals xs us → r x xs H Q →
    wpAny (model X.prog X.w) X.A (call (.builtin id) (v :: us)) (EP X pins σ Q) X.xe s
section
variable {X : Cx} {a b : Expr} {ta tb : TE} {pos : Pos}
/-- a[b] -/
theorem pe_ix {r : R2} (hr : IxR X r) (ha : PE X a ta) (hb : PE X b tb) (hs : PlainIx b) : PE X (.Subscript a b pos) (tOp r ta tb) := by
  intro pins s σ H Q I h
  exact Subscript_ (binT ha hb I h fun v u s2 x y H2 I2 rx ry q => hr a b pins s2 σ H2 x y v u Q I2 rx ry q (hs _ _))

def rIxL (K : PySem.W.Frag) : R2 := fun x y H Q => ∃ p xs i v, x = .ref p ∧ y = .int i ∧ SqL K H p xs ∧ atI xs i = some v ∧ Q v H
def rIxT (K : PySem.W.Frag) : R2 := fun x y H Q => ∃ p xs i v, x = .ref p ∧ y = .int i ∧ SqT K H p xs ∧ atI xs i = some v ∧ Q v H
def rIxS : R2 := fun x y H Q => ∃ z i c, x = .str z ∧ y = .int i ∧ z.length ≤ sizeLine ∧ atI z.cps.toList i = some c ∧ Q (.str ⟨#[c]⟩) H
theorem ix_list : IxR X (rIxL X.K) := by
  intro value slice pins s σ H x y v u Q I rx ry h hs
  obtain ⟨p, xs, i, z, rfl, rfl, hq, he, q⟩ := h
  cases rx
  obtain ⟨t, rfl⟩ := ry
  obtain ⟨its, r, pl, hz⟩ := I.list hq
  obtain ⟨j, h1, h2, h3, h4, h5⟩ := atI_get he
  obtain ⟨w, ew, rw'⟩ := r.get h2
  have hl := r.length
  have hn := line63
  have fin : EP X pins σ Q w s := ⟨z, H, I, rw', q⟩
  by_cases h0 : 0 ≤ i
  · have hj : i.toNat = j := by
      rw [seqIndex_of h0 h5] at h1
      exact Option.some.inj h1
    exact item_listR pl.isList h0 (by omega) (by rw [hj]; simpa using ew) fin hs
  · have hj : (i + (its.toArray.size : Int)).toNat = j := by
      rw [seqIndex_neg (by omega) h4] at h1
      rw [List.size_toArray, ← hl]
      exact Option.some.inj h1
    exact subscriptTail_builtinR (x := w) pl.isList.typeIs slot_list_getitem.lookup
      (wpAny_getItem_list_neg (Q := fun r s' => r = w ∧ EP X pins σ Q r s') pl.isList (by omega) (by rw [List.size_toArray] <;> omega) (by omega) (by rw [hj]; simpa using ew) ⟨rfl, fin⟩) hs
theorem ix_tup : IxR X (rIxT X.K) := by
  intro value slice pins s σ H x y v u Q I rx ry h hs
  obtain ⟨p, xs, i, z, rfl, rfl, hq, he, q⟩ := h
  cases rx
  obtain ⟨t, rfl⟩ := ry
  obtain ⟨its, r, pl, hz⟩ := I.tuple hq
  obtain ⟨j, h1, h2, h3, h4, h5⟩ := atI_get he
  obtain ⟨w, ew, rw'⟩ := r.get h2
  have hl := r.length
  have hn := line63
  have fin : EP X pins σ Q w s := ⟨z, H, I, rw', q⟩
  exact subscriptTail_builtinR (x := w) pl.typeIs slot_tuple_getitem.lookup
    (getItem_tuple (j := j) (Q := fun r s' => r = w ∧ EP X pins σ Q r s') pl (by omega) (by omega) (by rw [List.size_toArray, ← hl]; exact h1) (by simpa using ew) ⟨rfl, fin⟩) hs
theorem ix_str : IxR X rIxS := by
  intro value slice pins s σ H x y v u Q I rx ry h hs
  obtain ⟨z, i, c, rfl, rfl, hz, he, q⟩ := h
  obtain ⟨t, rfl⟩ := rx
  obtain ⟨t', rfl⟩ := ry
  obtain ⟨j, h1, h2, h3, h4, h5⟩ := atI_get he
  have hl : z.cps.toList.length = z.length := by simp [Str.length]
  rw [hl] at h1 h4 h5
  have hn := line63
  exact tail_any (typeIs_str s z t) slot_str_getitem.lookup (getItem_str (c := c) (by
    have e1 : decide (i < -(2 ^ 63 : Int)) = false := decide_eq_false (by omega)
    have e2 : decide (i ≥ 2 ^ 63) = false := decide_eq_false (by omega)
    rw [e1, e2, Bool.or_false]) (by rw [h1]; simpa using h2) ⟨.str ⟨#[c]⟩, H, I.tok _, ⟨_, rfl⟩, q⟩) hs
/-- list, tuple or str -/
def rIx (K : PySem.W.Frag) : R2 := fun x y H Q => rIxL K x y H Q ∨ rIxT K x y H Q ∨ rIxS x y H Q
/-! ### xs[i] = v, any sign -/
/-- the list's object behind a store -/
theorem mapSeq_set (its : List Value) (n j : Nat) (u : Value) : Obj.mapSeq (·.setIfInBounds j u) { cls := .type "list", data := .seq its.toArray n } = { cls := .type "list", data := .seq (its.set j u).toArray n } := by
  simp [Obj.mapSeq]
theorem Inv.lst {pins : List (Addr × Obj)} {σ : St} {H : Hp} {s : Shared} {p : Addr} {xs : List V} (I : Inv X pins σ H s) (h : H p = some (.lst xs)) :
    ∃ (its : List Value) (n : Nat), Vals xs its ∧ s.heap.get? p = some { cls := .type "list", data := .seq its.toArray n } ∧ xs.length ≤ sizeLine := by
  obtain ⟨z, its, n, r, e⟩ := I.hok p _ h
  exact ⟨its, n, r, e, z⟩
/-- the list at p is written by an update of its object -/
theorem Inv.lstUpd {pins : List (Addr × Obj)} {σ : St} {H : Hp} {s : Shared} {p : Addr} {xs ys : List V} {its its' : List Value} {n n' : Nat} {f : Obj → Obj} (I : Inv X pins σ H s) (h : H p = some (.lst xs))
    (ho : s.heap.get? p = some { cls := .type "list", data := .seq its.toArray n }) (hf : f { cls := .type "list", data := .seq its.toArray n } = { cls := .type "list", data := .seq its'.toArray n' }) (r : Vals ys its') (hz : ys.length ≤ sizeLine) (t : Nat) :
    Inv X pins σ (upd H p (.lst ys)) { s with heap := s.heap.update p f, toks := t } := by
  have e : (s.heap.update p f).get? p = some { cls := .type "list", data := .seq its'.toArray n' } := by
    rw [Heap.get?_update_self f ho (by rw [hf] <;> rfl), hf]
  refine I.write (x := p) (e := p) (by rw [h]; trivial) (.inl rfl) (fun b u hb q => (Heap.get?_update_other _ _ (Ne.symm hb)).trans q) ⟨_, e⟩ ?_
  exact ⟨hz, its', n', r, e⟩
def rSetL : V → V → V → Hp → (Hp → Prop) → Prop := fun o i v H Q => ∃ p xs k j, o = .ref p ∧ i = .int k ∧ H p = some (.lst xs) ∧ ixN xs.length k = some j ∧ Q (upd H p (.lst (xs.set j v)))
theorem set_list : PSet X rSetL := by
  intro pins s σ H o i v ov iv u Q I ro ri rv h
  obtain ⟨p, xs, k, j, rfl, rfl, hp, hj, q⟩ := h
  cases ro
  obtain ⟨t, rfl⟩ := ri
  obtain ⟨its, n, r, ho, hz⟩ := I.lst hp
  obtain ⟨h1, h2, h3, h4⟩ := ixN_seq hj
  have hl := r.length
  have hn := line63
  have I' : Inv X pins σ (upd H p (.lst (xs.set j v))) { s with heap := s.heap.update p (Obj.mapSeq (·.setIfInBounds j u)) } :=
    I.lstUpd hp ho (mapSeq_set its n j u) (r.set rv j) (by rw [List.length_set]; exact hz) s.toks
  by_cases h0 : 0 ≤ k
  · have hk : k.toNat = j := by
      rw [seqIndex_of h0 h4] at h1
      exact Option.some.inj h1
    exact PySem.W.ki_setAt ho h0 (by omega) (by rw [List.size_toArray, ← hl]; exact h4) (by rw [hk]; exact ⟨_, I', q⟩)
  · have hk : (k + (its.toArray.size : Int)).toNat = j := by
      rw [seqIndex_neg (by omega) h3] at h1
      rw [List.size_toArray, ← hl]
      exact Option.some.inj h1
    exact PySem.W.ki_setBack ho (by omega) (by rw [List.size_toArray, ← hl]; exact h3) (by omega) (by rw [hk]; exact ⟨_, I', q⟩)

/-! ### slices -/
theorem slice_bounds (lo hi : Option Int) (n : Nat) : (sliceBounds lo hi none n).1 = ((HT.sIx n 0 lo : Nat) : Int) ∧ (sliceBounds lo hi none n).2.1 = ((HT.sIx n n hi : Nat) : Int) ∧ (sliceBounds lo hi none n).2.2 = 1 := by
  refine ⟨?_, ?_, rfl⟩
  · cases lo with
    | none => simp [sliceBounds, HT.sIx]
    | some i =>
      simp only [sliceBounds, HT.sIx, Option.getD_none, show (1 : Int) > 0 by decide, if_true]
      by_cases h : i < 0
      · simp only [h, if_true] <;> omega
      · simp only [h, if_false] <;> omega
  · cases hi with
    | none => simp [sliceBounds, HT.sIx]
    | some i =>
      simp only [sliceBounds, HT.sIx, Option.getD_none, show (1 : Int) > 0 by decide, if_true]
      by_cases h : i < 0
      · simp only [h, if_true] <;> omega
      · simp only [h, if_false] <;> omega
theorem slicePick_cut (its : List Value) (lo hi : Option Int) : slicePick its.toArray lo hi none = ((its.drop (HT.sIx its.length 0 lo)).take (HT.sIx its.length its.length hi - HT.sIx its.length 0 lo)).toArray := by
  obtain ⟨h1, h2, h3⟩ := slice_bounds lo hi its.toArray.size
  unfold slicePick
  rw [h1, h2, h3]
  simp only [sliceRange_one, pick_run, List.size_toArray] <;> rfl
/-- xs[lo:hi] of a list: a new list -/
def rSlL (K : PySem.W.Frag) : V → Option Int → Option Int → Hp → VK → Prop := fun x lo hi H Q => ∃ a xs, x = .ref a ∧ SqL K H a xs ∧ ∀ p, H p = none → Q (.ref p) (upd H p (.lst (cutV xs lo hi)))
theorem sl_list : SlR X (rSlL X.K) := by
  intro pins s σ H x v vl vu lo hi sl Q I rx hs pl pu h
  obtain ⟨a, xs, rfl, hx, q⟩ := h
  cases rx
  obtain ⟨its, r, ht, hz⟩ := I.list hx
  have hlen := r.length
  refine ⟨"list", _, slot_list_getitem.lookup, ht.isList.typeIs, ?_⟩
  refine wpAny_getItem_list_slice ht.isList hs pl pu .none (by simp) ?_ (by rw [List.size_toArray] <;> omega)
  rw [slicePick_cut, ← hlen]
  refine ⟨.ref s.heap.objs.size, _, I.laid (t' := s.toks) (o := .lst (cutV xs lo hi)) (fun b ob q => Heap.get?_push_of_some _ q) (Nat.le_refl _) ?_, rfl, q _ (I.hok.fresh (Nat.le_refl _))⟩
  exact ⟨Nat.le_trans (cutV_length xs lo hi) hz, _, 0, (r.drop (HT.sIx xs.length 0 lo)).take (HT.sIx xs.length xs.length hi - HT.sIx xs.length 0 lo), Heap.get?_push_size _ rfl⟩

/-! ### in, not in: flat items -/
def flatV : V → Bool
  | .non => true
  | .bl _ => true
  | .int _ => true
  | .str _ => true
  | _ => false
/-- == of flat values -/
def eqV : V → V → Bool
  | .non, .non => true
  | .bl a, .bl b => a == b
  | .bl a, .int b => (if a then 1 else 0) == b
  | .int a, .bl b => a == (if b then 1 else 0)
  | .int a, .int b => a == b
  | .str a, .str b => a == b
  | _, _ => false
theorem eqAt_V {A : Around} {s : Shared} {y x : V} {u v : Value} (ry : RelV y u) (rx : RelV x v) (fy : flatV y = true) (fx : flatV x = true) : SeqAt.EqAt A s u v (eqV y x) := by
  cases y with
  | non =>
    cases ry
    cases x with
    | non => cases rx; exact SeqAt.EqAt.same _
    | bl b => cases rx; exact SeqAt.EqAt.none_bool b
    | int b => obtain ⟨t, rfl⟩ := rx; exact SeqAt.EqAt.none_int b t
    | str b => obtain ⟨t, rfl⟩ := rx; exact SeqAt.EqAt.none_str b t
    | _ => exact absurd (show false = true from fx) Bool.false_ne_true
  | bl a =>
    cases ry
    cases x with
    | non => cases rx; exact SeqAt.EqAt.bool_none a
    | bl b => cases rx; exact SeqAt.EqAt.bool_bool a b
    | int b => obtain ⟨t, rfl⟩ := rx; exact SeqAt.EqAt.bool_int a b t
    | str b => obtain ⟨t, rfl⟩ := rx; exact SeqAt.EqAt.bool_str a b t
    | _ => exact absurd (show false = true from fx) Bool.false_ne_true
  | int a =>
    obtain ⟨t', rfl⟩ := ry
    cases x with
    | non => cases rx; exact SeqAt.EqAt.int_none a t'
    | bl b => cases rx; exact SeqAt.EqAt.int_bool a t' b
    | int b => obtain ⟨t, rfl⟩ := rx; exact SeqAt.EqAt.int_int a t' b t
    | str b => obtain ⟨t, rfl⟩ := rx; exact SeqAt.EqAt.int_str a t' b t
    | _ => exact absurd (show false = true from fx) Bool.false_ne_true
  | str a =>
    obtain ⟨t', rfl⟩ := ry
    cases x with
    | non => cases rx; exact SeqAt.EqAt.str_none a t'
    | bl b => cases rx; exact SeqAt.EqAt.str_bool a t' b
    | int b => obtain ⟨t, rfl⟩ := rx; exact SeqAt.EqAt.str_int a t' b t
    | str b => obtain ⟨t, rfl⟩ := rx; exact SeqAt.EqAt.str_str a t' b t
    | _ => exact absurd (show false = true from fx) Bool.false_ne_true
  | _ => exact absurd (show false = true from fy) Bool.false_ne_true
/-- the items' answers, read off the values (a value's own answer does not lean on its token) -/
def eqU (x : V) (u : Value) : Bool := match u with
  | .none => eqV .non x
  | .bool b => eqV (.bl b) x
  | .int i _ => eqV (.int i) x
  | .str z _ => eqV (.str z) x
  | _ => false
theorem eqU_of {x y : V} {u : Value} (r : RelV y u) (f : flatV y = true) : eqU x u = eqV y x := by
  cases y with
  | non => cases r; rfl
  | bl b => cases r; rfl
  | int i => obtain ⟨t, rfl⟩ := r; rfl
  | str z => obtain ⟨t, rfl⟩ := r; rfl
  | _ => exact absurd (show false = true from f) Bool.false_ne_true
theorem any_eqU {x : V} : ∀ {xs : List V} {us : List Value}, Vals xs us → xs.all flatV = true → us.any (eqU x) = xs.any fun y => eqV y x
  | _, _, .nil, _ => rfl
  | y :: xs, u :: us, .cons r t, f => by
    rw [List.all_cons, Bool.and_eq_true] at f
    rw [List.any_cons, List.any_cons, eqU_of r f.1, any_eqU t f.2]
theorem mem_eqAt {A : Around} {s : Shared} {x : V} {v : Value} (rx : RelV x v) (fx : flatV x = true) : ∀ {xs : List V} {us : List Value}, Vals xs us → xs.all flatV = true → ∀ u ∈ us, SeqAt.EqAt A s u v (eqU x u)
  | _, _, .nil, _ => fun u hu => by cases hu
  | y :: xs, u :: us, .cons r t, f => fun u' hu => by
    rw [List.all_cons, Bool.and_eq_true] at f
    rcases List.mem_cons.mp hu with rfl | hu
    · rw [eqU_of r f.1]; exact eqAt_V r rx f.1 fx
    · exact mem_eqAt rx fx t f.2 u' hu
def inV (x : V) (xs : List V) : Bool := xs.any fun y => eqV y x
/-- x in a list or tuple of flat items -/
def rIn (K : PySem.W.Frag) (neg : Bool) : R2 := fun x y H Q => ∃ p xs, y = .ref p ∧ (SqL K H p xs ∨ SqT K H p xs) ∧ flatV x = true ∧ xs.all flatV = true ∧ Q (.bl (if neg then !inV x xs else inV x xs)) H
theorem op_in_seq : OpR X (compareOp .In) (rIn X.K false) := by
  intro pins s σ H x y v u Q I rx ry h
  obtain ⟨p, xs, rfl, hq, fx, fs, q⟩ := h
  cases ry
  rcases hq with hq | hq
  · obtain ⟨its, r, pl, hz⟩ := I.list hq
    refine SeqAt.in_listAt (eqU x) pl.isList (fun w hw => mem_eqAt rx fx r fs w (by simpa using hw)) ⟨.bl _, H, I, rfl, ?_⟩
    rw [show its.toArray.any (eqU x) = its.any (eqU x) by simp, any_eqU r fs]
    exact q
  · obtain ⟨its, r, pl, hz⟩ := I.tuple hq
    refine SeqAt.in_tupleAt (eqU x) pl (fun w hw => mem_eqAt rx fx r fs w (by simpa using hw)) ⟨.bl _, H, I, rfl, ?_⟩
    rw [show its.toArray.any (eqU x) = its.any (eqU x) by simp, any_eqU r fs]
    exact q
/-! ### len, list(x), tuple(x) of any list or tuple that is read -/
theorem call_len_seq : CallR X (.builtin "len") (fun xs H Q => ∃ p ys, xs = [.ref p] ∧ (SqL X.K H p ys ∨ SqT X.K H p ys) ∧ Q (.int ys.length) H) := by
  intro pins s σ H xs us Q I r h
  obtain ⟨p, ys, rfl, hq, q⟩ := h
  obtain ⟨u, rfl, rx⟩ := vals1 r
  cases rx
  have hn := line63
  rcases hq with hq | hq
  · obtain ⟨its, r', pl, hz⟩ := I.list hq
    have hlen := r'.length
    exact Calls.call_len_list pl.isList (by simp only [List.size_toArray] <;> omega) ⟨.int ys.length, H, I.tok _, ⟨s.toks + 1, by rw [List.size_toArray, hlen]⟩, q⟩
  · obtain ⟨its, r', pl, hz⟩ := I.tuple hq
    have hlen := r'.length
    exact len_tuple pl (by simp only [List.size_toArray] <;> omega) ⟨.int ys.length, H, I.tok _, ⟨s.toks + 1, by rw [List.size_toArray, hlen]⟩, q⟩
theorem call_list_of : CallR X (.type "list") (fun xs H Q => ∃ p ys, xs = [.ref p] ∧ (SqL X.K H p ys ∨ SqT X.K H p ys) ∧ ∀ l, H l = none → Q (.ref l) (upd H l (.lst ys))) := by
  intro pins s σ H xs us Q I r h
  obtain ⟨p, ys, rfl, hq, q⟩ := h
  obtain ⟨u, rfl, rx⟩ := vals1 r
  cases rx
  have fin : ∀ (its : List Value), Vals ys its → ys.length ≤ sizeLine → ∀ (h' : Heap) (c' : Nat), (∀ b o', s.heap.get? b = some o' → h'.get? b = some o') →
      h'.get? s.heap.objs.size = some { cls := .type "list", dict := none, data := .seq its.toArray c', slots := #[] } → EP X pins σ Q (.ref s.heap.objs.size) { s with heap := h' } := fun its r' hz h' c' kp e =>
    ⟨.ref s.heap.objs.size, _, I.laid (t' := s.toks) kp (Nat.le_refl _) (show ObjOk X.prog X.w _ h' _ (.lst ys) from ⟨hz, its, c', r', e⟩), rfl, q _ (I.hok.fresh (Nat.le_refl _))⟩
  rcases hq with hq | hq
  · obtain ⟨its, r', pl, hz⟩ := I.list hq
    have hlen := r'.length
    obtain ⟨o, ho, hc, n, hd⟩ := pl.isList
    exact call_list_seq p (.inl rfl) ho hc hd (fun h' c' kp e => fin its r' hz h' c' kp e) (by simp only [List.size_toArray] <;> omega)
  · obtain ⟨its, r', pl, hz⟩ := I.tuple hq
    have hlen := r'.length
    obtain ⟨o, ho, hc, n, hd⟩ := pl
    exact call_list_seq p (.inr rfl) ho hc hd (fun h' c' kp e => fin its r' hz h' c' kp e) (by simp only [List.size_toArray] <;> omega)
theorem call_tuple_of : CallR X (.type "tuple") (fun xs H Q => ∃ p ys, xs = [.ref p] ∧ ((SqL X.K H p ys ∧ ∀ l, H l = none → Q (.ref l) (upd H l (.tup ys))) ∨ (SqT X.K H p ys ∧ Q (.ref p) H))) := by
  intro pins s σ H xs us Q I r h
  obtain ⟨p, ys, rfl, h⟩ := h
  obtain ⟨u, rfl, rx⟩ := vals1 r
  cases rx
  rcases h with ⟨hq, q⟩ | ⟨hq, q⟩
  · obtain ⟨its, r', pl, hz⟩ := I.list hq
    have hlen := r'.length
    refine call_tuple_list pl.isList (fun h' kp => ?_) (by simp only [List.size_toArray] <;> omega)
    have I1 : Inv X pins σ H { s with heap := h' } := I.kept (t' := s.toks) kp
    have I2 : Inv X pins σ (upd H h'.objs.size (.tup ys)) { s with heap := h'.push { cls := .type "tuple", data := .seq its.toArray } } :=
      I1.laid (t' := s.toks) (fun b o e => Heap.get?_push_of_some _ e) (Nat.le_refl _) (show ObjOk X.prog X.w _ _ _ (.tup ys) from ⟨hz, its, r', IsTup.new _ _⟩)
    exact ⟨.ref h'.objs.size, _, I2, rfl, q _ (I1.hok.fresh (Nat.le_refl _))⟩
  · obtain ⟨its, r', pl, hz⟩ := I.tuple hq
    exact call_tuple_same pl ⟨.ref p, H, I, rfl, q⟩

/-! ### the call of a builtin's method: o.m(..) -/
/-- the value is of that builtin type -/
def tyV (K : PySem.W.Frag) (T : String) (x : V) (H : Hp) : Prop := match x with
  | .str _ => T = "str"
  | .int _ => T = "int"
  | .ref p => (T = "list" ∧ ∃ xs, SqL K H p xs) ∨ (T = "tuple" ∧ ∃ o, K.lookup p = some o ∧ o.cls = .type "tuple" ∧ o.dict = none) ∨
      (T = "dict" ∧ ((∃ kvs, H p = some (.dK kvs)) ∨ ∃ kvs, H p = some (.dT kvs))) ∨ (T = "set" ∧ ∃ S n, H p = some (.set S n))
  | _ => False
theorem tyV_is {pins : List (Addr × Obj)} {σ : St} {H : Hp} {s : Shared} {T : String} {x : V} {v : Value} (I : Inv X pins σ H s) (r : RelV x v) (ty : tyV X.K T x H) :
    s.TypeIs v T ∧ ∀ a, v = .ref a → ∃ ob, s.heap.get? a = some ob ∧ ob.dict = none := by
  cases x with
  | str z =>
    obtain ⟨t, rfl⟩ := r
    cases (show T = "str" from ty)
    exact ⟨typeIs_str s z t, fun _ e => nomatch e⟩
  | int i =>
    obtain ⟨t, rfl⟩ := r
    cases (show T = "int" from ty)
    exact ⟨typeIs_int s i t, fun _ e => nomatch e⟩
  | ref p =>
    cases r
    rcases ty with ⟨rfl, xs, hq⟩ | ⟨rfl, o, hk, hc, hd⟩ | ⟨rfl, hk⟩ | ⟨rfl, S, n, hk⟩
    · obtain ⟨its, _, pl, _⟩ := I.list hq
      refine ⟨pl.isList.typeIs, fun a e => ?_⟩
      cases e
      obtain ⟨o, n, e, c, hd, _⟩ := pl
      exact ⟨o, e, hd⟩
    · refine ⟨⟨o, I.kIn p o hk, hc⟩, fun a e => ?_⟩
      cases e
      exact ⟨o, I.kIn _ o hk, hd⟩
    · have z : ∃ o, s.heap.get? p = some o ∧ o.ExactDict := by
        rcases hk with ⟨kvs, hk⟩ | ⟨kvs, hk⟩
        · obtain ⟨_, _, _, _, o, _, _, e, ex, _⟩ := I.hok p _ hk
          exact ⟨o, e, ex⟩
        · obtain ⟨_, _, _, _, o, _, _, e, ex, _⟩ := I.hok p _ hk
          exact ⟨o, e, ex⟩
      obtain ⟨o, e, ex⟩ := z
      refine ⟨⟨o, e, ex.1⟩, fun a e2 => ?_⟩
      cases e2
      exact ⟨o, e, ex.2.1⟩
    · obtain ⟨o, _, _, _, e, ex, _⟩ := I.hok p _ hk
      refine ⟨⟨o, e, ex.1⟩, fun a e2 => ?_⟩
      cases e2
      exact ⟨o, e, ex.2.1⟩
  | _ => exact False.elim ty
def tBM0 (K : PySem.W.Frag) (T : String) (r : V → List V → Hp → VK → Prop) (to : TE) : TE := fun σ H Q => to σ H fun x H1 => tyV K T x H1 ∧ r x [] H1 Q
def tBM (K : PySem.W.Frag) (T : String) (r : V → List V → Hp → VK → Prop) (to : TE) (t : TA) : TE := fun σ H Q => to σ H fun x H1 => tyV K T x H1 ∧ t σ H1 fun xs H2 => r x xs H2 Q
variable {o e : Expr} {es : List Expr} {to : TE} {t : TA} {name : Str} {apos cpos : Pos} {T id : String} {r : V → List V → Hp → VK → Prop}
theorem pe_bm (pa : PlainAttrs T) (slot : Slot T name id) (hty : typeOf (.builtin id) = pure (.type "method_descriptor")) (hm : MtR X id r) (ho : PE X o to) (ha : PA X (e :: es) t)
    (hbase : attributeBase o name X.env (eval o X.env) = eval o X.env := by rfl)
    (hfew : ((backTo cpos (starEach (e :: es) X.env)).all (fun x => !x.1) && (backToKw cpos (keywordEach [] X.env)).all (fun x => x.1.isSome)
      && decide ((e :: es).length + ([] : List Keyword).length + (if ([] : List Keyword).isEmpty then 0 else 1) < 30)) = true := by rfl)
    (hline : (apos.endLine == cpos.line) = true := by rfl) (hs : starEach (e :: es) X.env = (false, eval e X.env) :: starEach es X.env := by rfl) (hplain : (backTo cpos (starEach es X.env)).any (·.1) = false := by rfl) :
    PE X (.Call (.Attribute o name apos) (e :: es) [] cpos) (tBM X.K T r to t) := by
  intro pins s σ H Q I h
  refine wpAny_Call_method_late hbase hfew hline rfl (thn (ho pins s σ H _ I h) fun v s1 ⟨x, H1, I1, r1, ty, q1⟩ => ?_)
  obtain ⟨h1, h2⟩ := tyV_is I1 r1 ty
  refine ⟨T, id, pa, slot, hty, h1, h2, ?_⟩
  have hA := ha cpos pins s1 σ H1 _ I1 q1
  rw [hs] at hA ⊢
  refine Calls.callWith_builtin (by show (false || (backTo cpos (starEach es X.env)).any (·.1)) = false; rw [hplain] <;> rfl) (Calls.evalArgs_plain ?_)
  exact thn hA fun us s2 ⟨vs, H2, I2, r2, q2⟩ => hm pins s2 σ H2 x vs v us Q I2 r1 r2 q2
/- xs.append(e), list.index on a module's tuple .. are MtR facts of 06m -/
end
end L2

namespace L2
open PySem PySem.Spec PyProof.Rows

def MtM (X : Cx) (id : String) (r : V → List V → Hp → VK → Prop) : Prop :=
  ∀ (pins : List (Addr × Obj)) (s : Shared) (σ : St) (H : Hp) (x : V) (xs : List V) (v : Value) (us : List Value) (Q : VK), Inv X pins σ H s → RelV x v → Vals xs us → r x xs H Q →
    wpAny (model X.prog X.w) X.A (call (.builtin id) (v :: us)) (EP X pins σ Q) X.xe s

/-! ### lists of values -/
theorem Vals.one : ∀ {x : V} {us : List Value}, Vals [x] us → ∃ u, us = [u] ∧ RelV x u
  | _, _, .cons r .nil => ⟨_, rfl, r⟩
section
variable {X : Cx} {pins : List (Addr × Obj)} {σ : St} {H : Hp} {s : Shared} {l b : Addr} {xs ys zs : List V}

/-! ### the two steps: a tracked list is rewritten, a new list is laid -/
theorem Inv.lset {its its' : List Value} {n : Nat} {f : Array Value → Array Value} {t' : Nat} (I : Inv X pins σ H s) (hH : H l = some (.lst xs))
    (e : s.heap.get? l = some { cls := .type "list", data := .seq its.toArray n }) (hf : f its.toArray = its'.toArray) (hv : Vals ys its') (hz : ys.length ≤ sizeLine) :
    Inv X pins σ (upd H l (.lst ys)) { s with heap := s.heap.update l (Obj.mapSeq f), toks := t' } := by
  have q := PySem.IsL.update e f
  rw [hf] at q
  refine I.write (x := l) (e := l) (by rw [hH]; exact trivial) (.inl rfl) (fun b' u hb hu => (Heap.get?_update_other s.heap (Obj.mapSeq f) (Ne.symm hb)).trans hu) ⟨_, q⟩ ?_
  exact ⟨hz, its', _, hv, q⟩
theorem Inv.lnew {its : List Value} {t' : Nat} (I : Inv X pins σ H s) (hv : Vals ys its) (hz : ys.length ≤ sizeLine) :
    Inv X pins σ (upd H s.heap.objs.size (.lst ys)) { s with heap := s.heap.push { cls := .type "list", data := .seq its.toArray }, toks := t' } :=
  I.laid (fun _ _ q => Heap.get?_push_of_some _ q) (Nat.le_refl _) ⟨hz, its, 0, hv, Heap.get?_push_size _ rfl⟩
theorem Inv.fresh (I : Inv X pins σ H s) : H s.heap.objs.size = none := I.hok.fresh (Nat.le_refl _)
theorem Inv.lstM (I : Inv X pins σ H s) (hH : H l = some (.lst xs)) : xs.length ≤ sizeLine ∧ ∃ (its : List Value) (n : Nat), Vals xs its ∧ xs.length = its.length ∧ s.heap.get? l = some { cls := .type "list", data := .seq its.toArray n } := by
  obtain ⟨z, its, n, r, e⟩ := I.hok l _ hH
  exact ⟨z, its, n, r, r.length, e⟩

end

section
variable {X : Cx}

/-! ### methods -/
def rAppend : V → List V → Hp → VK → Prop := fun x vs H Q => ∃ l xs y, x = .ref l ∧ vs = [y] ∧ H l = some (.lst xs) ∧ xs.length < sizeLine ∧ Q .non (upd H l (.lst (xs ++ [y])))
theorem mt_append : MtM X "list.append" rAppend := by
  intro pins s σ H x vs v us Q I rx rv h
  obtain ⟨l, xs, y, rfl, rfl, hH, hz, q⟩ := h
  cases rx
  obtain ⟨u, rfl, ru⟩ := rv.one
  obtain ⟨z, its, n, r, hl, e⟩ := I.lstM hH
  refine call_meets F.slot_list_append ⟨_, e, rfl⟩ F.entry_list_append (F.args_list_append_2 _ _) (PySem.list_append l its.toArray n u (by rw [List.size_toArray]; omega)) ⟨e, ?_⟩
  refine ⟨.non, _, I.lset (its' := its ++ [u]) hH e (by simp) (r.append (.cons ru .nil)) ?_, rfl, q⟩
  rw [List.length_append, List.length_singleton]
  omega

def rExtend : V → List V → Hp → VK → Prop := fun x vs H Q => ∃ l b xs zs, x = .ref l ∧ vs = [.ref b] ∧ H l = some (.lst xs) ∧ H b = some (.lst zs) ∧ xs.length + zs.length ≤ sizeLine ∧ Q .non (upd H l (.lst (xs ++ zs)))
def rPop : V → List V → Hp → VK → Prop := fun x vs H Q => ∃ l xs y, x = .ref l ∧ vs = [] ∧ H l = some (.lst xs) ∧ xs[xs.length - 1]? = some y ∧ Q y (upd H l (.lst xs.dropLast))
def rPopAt : V → List V → Hp → VK → Prop := fun x vs H Q => ∃ l xs i k y, x = .ref l ∧ vs = [.int i] ∧ H l = some (.lst xs) ∧ -(2 ^ 63) ≤ i ∧ i < 2 ^ 63 ∧ seqIndex? i xs.length = some k ∧ xs[k]? = some y ∧ Q y (upd H l (.lst (xs.eraseIdx k)))
def rReverse : V → List V → Hp → VK → Prop := fun x vs H Q => ∃ l xs, x = .ref l ∧ vs = [] ∧ H l = some (.lst xs) ∧ Q .non (upd H l (.lst xs.reverse))
def rClear : V → List V → Hp → VK → Prop := fun x vs H Q => ∃ l xs, x = .ref l ∧ vs = [] ∧ H l = some (.lst xs) ∧ Q .non (upd H l (.lst []))
/-! ### list + list, list += list, list * int -/
def rCat : R2 := fun x y H Q => ∃ l b xs zs, x = .ref l ∧ y = .ref b ∧ H l = some (.lst xs) ∧ H b = some (.lst zs) ∧ xs.length + zs.length ≤ sizeLine ∧ ∀ p, H p = none → Q (.ref p) (upd H p (.lst (xs ++ zs)))
theorem op_cat : OpR X (binaryOp .Add) rCat := by
  intro pins s σ H x y v u Q I rx ry h
  obtain ⟨l, b, xs, zs, rfl, rfl, hH, hB, hz, q⟩ := h
  cases rx
  cases ry
  obtain ⟨z, its, n, r, hl, e⟩ := I.lstM hH
  obtain ⟨z2, its2, n2, r2, hl2, e2⟩ := I.lstM hB
  refine PySem.P.add_list e e2 ?_ (by rw [List.size_toArray, List.size_toArray]; omega)
  have ea : its.toArray ++ its2.toArray = (its ++ its2).toArray := by simp
  rw [ea]
  exact ⟨.ref _, _, I.lnew (t' := s.toks) (r.append r2) (by rw [List.length_append]; omega), rfl, q _ I.fresh⟩
/-- a list times an int (a negative one is nothing) -/
def rRep : R2 := fun x y H Q => ∃ l k xs, x = .ref l ∧ y = .int k ∧ H l = some (.lst xs) ∧ -(2 ^ 63) ≤ k ∧ k < 2 ^ 63 ∧ xs.length * k.toNat ≤ sizeLine ∧
  ∀ p, H p = none → Q (.ref p) (upd H p (.lst (List.replicate k.toNat xs).flatten))
/-! ### del xs[i] -/
end

/-! ### xs[a:b] = ys -/
section
variable {prog : Program} {w : World} {A : Around} {E : Value → Shared → Prop} {s : Shared}
set_option maxRecDepth 100000 in
end

section
variable {X : Cx}
end
end L2

namespace Att
open PySem PySem.W PySem.Calls PyProof.Rows

/-! ### the script -/
theorem ints_of_wellAll {P : Params} {h : Heap} : ∀ (ns : List Int) (vs : List Value), WellAll P h vs (ns.map WData.int) → IntsAre vs ns := by
  intro ns
  induction ns with
  | nil =>
    intro vs w
    rw [List.map_nil] at w
    cases w
    exact .nil
  | cons n ns ih =>
    intro vs w
    rw [List.map_cons] at w
    cases w with
    | cons a b =>
      cases a
      exact .cons _ _ (ih _ b)

theorem script_of {l : OpenLaw} {n : Nat} (hn : l.most = some n) {P : Params} {h : Heap} {args : List WData} {vals : List Value}
    (hpre : l.row.toRowW.claim.pre args = true) (hwl : WellAll P h vals args) :
    ∃ a vs ns, vals = [Value.ref a] ∧ args = [WData.list (ns.map WData.int)] ∧ h.get? a = some { cls := .type "list", data := .seq vs.toArray } ∧ IntsAre vs ns ∧ ns.length ≤ n := by
  have hsh : WShape.hasAll [] args [.list .int] = true := (pre_splitW hpre).1
  have hc : l.pre.holds [] { args := args } = true := (pre_splitW hpre).2
  obtain ⟨d, r, rfl, h1, h2⟩ := hasAllW_cons hsh
  obtain rfl := hasAllW_nil h2
  obtain ⟨xs, rfl, h3⟩ := hasW_list h1
  obtain ⟨ns, rfl⟩ := items_int h3
  have hlen : ns.length ≤ n := by
    unfold OpenLaw.pre at hc
    have h4 : (WTm.not (.lt (.lit (.int (n : Int))) (.len (.arg 0)))).holds [] { args := [.list (ns.map .int)] } = true := by
      have h4 := (holds_andW hc).1
      rw [hn] at h4
      exact h4
    have h5 := condW_of h4 (w_not (w_lt w_lit (w_len_list (w_arg rfl))))
    rw [List.length_map] at h5
    refine Nat.le_of_not_lt fun q => ?_
    have q' : (n : Int) < ((ns.length : Nat) : Int) := by omega
    first
      | (rw [decide_eq_true q'] at h5; exact absurd h5 (by decide))
      | (simp at h5; omega)
  cases hwl with
  | cons w1 w2 =>
    cases w2
    cases w1 with
    | list ho hall => exact ⟨_, _, ns, rfl, rfl, ho, ints_of_wellAll ns _ hall, hlen⟩

theorem post_true (l : OpenLaw) (args : List WData) : l.row.toRowW.claim.post args (.bool true) args = true :=
  postW_of (r := l.row.toRowW) (X := (true == true))
    (show WShape.has [] (.bool true) .bool = true by first | rfl | decide | simp [WShape.has, WShape.arms, WShape.armsAll])
    (show (WTm.eq .res (.lit (.bool true))).value [] { args := args, res := some (.bool true), after := args } = some (.bool (true == true)) from w_eq_bool (w_res rfl) w_lit) rfl

/-! ### the attachment: holds_open's last premise (the goal 'hc' behind k_head) from a wpAny of the law's body -/
/-- the same from a codeAny of the CALL (for a layer whose function contracts speak of calls) -/
theorem attach_call {l : OpenLaw} {n : Nat} {q : Program} {loose : List Str} {XP : (Str → Option Value) → Heap → Prop} {YP : World → Heap → Prop} {d : DefRec}
    (hn : l.most = some n) (hdf : d.params.defaults = [])
    (call : ∀ (w : World) (s₀ s₁ : Shared) (mg mb : Str → Option Value) (fa : Addr) (o : Obj) (pm cd doc : Value) (a : Addr) (vs : List Value) (ns : List Int),
      Ground q loose [] XP w s₀ mg mb s₁.heap → YP w s₁.heap →
      s₁.heap.get? fa = some o → o.data = .func (docDef d.name d.params d.body d.scope pm cd doc) → s₁.heap.CodeRec cd d.name → mg d.name = some (.ref fa) →
      s₁.heap.get? a = some { cls := .type "list", data := .seq vs.toArray } → IntsAre vs ns → ns.length ≤ n → s₁.gens = #[] →
      codeAny (model l.prog w) callerA (.call (.ref fa) ⟨[.ref a], []⟩) (fun r s' => r = .ok (.ret (.bool true)) ∧ OldK s₁.heap s'.heap ∧ s'.os = s₁.os ∧ AllBare s'.gens) s₁) :
    WalkO q loose XP YP l.row.toRowW d [] (fun f vs => PySem.call f vs) := by
  intro w s₀ s₁ mg mb G Y fa o pm cd doc dV kV ho hd hcd hD hmg hg args vals as hpre hlay hrd hwl hlo
  obtain rfl : dV = .none := Dflts.none hD hdf
  obtain rfl : kV = .none := Dflts.noKw hD
  obtain ⟨a, vs, ns, rfl, rfl, hobj, hints, hlen⟩ := script_of hn hpre hwl
  refine enter_call (codeAny_mono (call w s₀ s₁ mg mb fa o pm cd doc a vs ns G Y ho (fd_plain hd) hcd hmg hobj hints hlen hg) fun r s' hq => ?_)
  obtain ⟨rfl, h2, h3, h4⟩ := hq
  exact ⟨.inl ⟨.bool true, .bool true, [], rfl, fun _ => rfl, .bool true, post_true l _, fun _ => ⟨List.Pairwise.nil, fun _ hm => (nomatch hm)⟩⟩, h2, h3, h4⟩

/-! ### rules over ANY heap (no ledger) from facts about the written part K: the library's own take a ledger (News) for what they write -/
section
variable {prog : Program} {w : World} {A : Around} {E : Value → Shared → Prop} {s : Shared} {K : Frag}

/-! the whole heap as the ledger: makes every rule that writes through a ledger a rule over any heap -/
def noObjs (h : Heap) : Heap := { h with objs := #[] }
def ledger (h : Heap) (L d : Addr) : List (Addr × Obj) := (List.range h.objs.size).filterMap fun a => if a = L ∨ a = d then none else (h.get? a).map fun o => (a, o)
end
end Att

namespace L2
open PySem PySem.Spec PyProof.Rows

theorem vals_ints : ∀ {vs : List Value} {ns : List Int}, IntsAre vs ns → Vals (ns.map V.int) vs
  | _, _, .nil => .nil
  | _, _, .cons n t h => .cons ⟨t, rfl⟩ (vals_ints h)

/-- nothing is tracked but the script, known to the object (or it is an object of the module) -/
def Only (H : Hp) : Prop := ∀ b, H b = none ∨ ∃ o xs, H b = some (.frz o (.lst xs))

/-- THE HEAD: the law's promise, at the heap behind the top. F, the promise of the law's def, may use that base is part of the heap (so K.In base, base.Ns mainGlobals mg stand in Mod) -/
theorem law_call {P : Program} {w : World} {K : PySem.W.Frag} {mg mb : Str → Option Value} {CX : CXT} {k : Nat} {fa a : Addr} {fd : FuncData} {x : Str} {sp : Sp} {s₁ : Shared} {vs : List Value} {ns : List Int}
    (KX : K.In s₁.heap) (hns : s₁.heap.Ns mainGlobals mg) (hb : s₁.heap.Ns builtinsNs mb) (hbb : ∀ x : Str, x ≠ "__name__" → mb x = bootBuiltins x) (hlim : s₁.heap.NoLimit) (hg : s₁.gens = #[])
    (ha : s₁.heap.get? a = some { cls := .type "list", data := .seq vs.toArray }) (hi : IntsAre vs ns) (hl : ns.length ≤ sizeLine) (hr : Room k callerA)
    (F : ∀ base : Heap, K.In base → base.Ns mainGlobals mg → FnOk P w K mg base CX k fa fd [x] sp) (hbind : ∀ (s : Shared) (u : Value), BindsTo s fd ⟨[u], []⟩ [(x, u)])
    (hsp : ∀ H : Hp, Only H → SqL K H a (ns.map V.int) → sp [.ref a] H (fun v _ => v = .bl true) fun _ _ _ => False)
    (hCX : ∀ H e s', CX [] H s₁ (fun _ _ _ => False) e s' → False) :
    codeAny (model P w) callerA (.call (.ref fa) ⟨[.ref a], []⟩) (fun r s' => r = .ok (.ret (.bool true)) ∧ OldK s₁.heap s'.heap ∧ s'.os = s₁.os ∧ AllBare s'.gens) s₁ := by
  have rv := vals_ints hi
  have lenV := hi.length
  -- from an abstract heap in which nothing but the script may be tracked
  have core : ∀ H : Hp, Only H → SqL K H a (ns.map V.int) → HOk P w H s₁.heap → (∀ b, H b ≠ none → b = a) → (H a ≠ none → K.lookup a = none) →
      codeAny (model P w) callerA (.call (.ref fa) ⟨[.ref a], []⟩) (fun r s' => r = .ok (.ret (.bool true)) ∧ OldK s₁.heap s'.heap ∧ s'.os = s₁.os ∧ AllBare s'.gens) s₁ := by
    intro H hO hS hok hA hK
    have base_of : ∀ {b : Addr} {o : Obj}, s₁.heap.get? b = some o → H b = none → (hidT s₁.heap H).get? b = some o := fun e n => hidT_get e n
    have noA : ∀ {b : Addr} {o : Obj} {es : Array DictEntry} {ep : Nat}, s₁.heap.get? b = some o → o.data = .dict es ep → H b = none := fun {b o es ep} e d => by
      cases q : H b with
      | none => rfl
      | some u =>
        have e' : b = a := hA b (by rw [q]; simp)
        subst e'
        rw [ha] at e; cases e
        have d' : Data.seq vs.toArray _ = Data.dict es ep := d
        cases d'
    have nsK : ∀ {b : Addr} {m : Str → Option Value}, s₁.heap.Ns b m → (hidT s₁.heap H).Ns b m := fun {b m} ⟨o, es, ep, e, d, r⟩ => ⟨o, es, ep, base_of e (noA e d), d, r⟩
    have hKb : K.In (hidT s₁.heap H) := fun b o e => base_of (KX b o e) (by
      cases q : H b with
      | none => rfl
      | some u =>
        have e' : b = a := hA b (by rw [q]; simp)
        subst e'
        rw [hK (by rw [q]; simp)] at e; cases e)
    have hM : Mod K mg (hidT s₁.heap H) := ⟨hKb, nsK hns, ⟨mb, nsK hb, hbb⟩, let ⟨mc, h1, h2⟩ := hlim; ⟨mc, nsK h1, h2⟩⟩
    have e0 : Env0 P w K mg (hidT s₁.heap H) callerA [] s₁ H := ⟨rfl, hM, fun b o e => of_hidT e, Nat.le_of_eq (hidT_size _ _), trivial, fun b hb => absurd (show b ∈ ([] : List Addr) from hb) (by simp), hok, .of_eq hg⟩
    refine codeAny_mono ((F _ hKb (nsK hns)).run callerA [] s₁ H ⟨[.ref a], []⟩ [.ref a] [.ref a] _ _ hr e0 (hbind s₁ (.ref a)) (.cons rfl .nil) (hsp H hO hS)) fun r s' h => ?_
    cases r with
    | error e => exact (hCX H e s' h).elim
    | ok fl =>
      cases fl with
      | next => exact False.elim h
      | brk => exact False.elim h
      | cont => exact False.elim h
      | ret u =>
        obtain ⟨v, H', os, bare, un, hok', r', q⟩ := h
        have q' : v = .bl true := q
        subst q'
        obtain rfl : u = Value.bool true := r'
        refine ⟨rfl, OldK.of_keep fun b o e => ?_, os, bare⟩
        cases q : H b with
        | none => exact un.keep b o e q (by intro z; exact absurd (show b ∈ ([] : List Addr) from z) (by simp)) (by simp)
        | some u =>
          rcases hO b with z | ⟨ob, xs, z⟩
          · rw [q] at z; cases z
          · have z2 := un.frzs b ob _ z
            obtain ⟨e1, _⟩ := hok b _ z
            obtain ⟨e2, _⟩ := hok' b _ z2
            rw [e] at e1; cases e1
            exact e2
  cases hk : K.lookup a with
  | some o =>
    -- the script is one of the module's own objects
    have e := KX a o hk
    rw [ha] at e
    cases e
    refine core (fun _ => none) (fun _ => .inl rfl) (.inr ⟨_, vs.toArray, _, hk, rfl, rfl, rfl, by rw [List.size_toArray, lenV]; exact hl, by simpa using rv⟩) (fun b u z => by have z' : (none : Option HO) = some u := z; cases z') (fun b z => absurd rfl z) fun z => absurd rfl z
  | none =>
    refine core (fun b => if b = a then some (.frz { cls := .type "list", data := .seq vs.toArray } (.lst (ns.map V.int))) else none) (fun b => ?_) (.inl (.inr ⟨{ cls := .type "list", data := .seq vs.toArray }, if_pos rfl⟩)) (fun b u z => ?_) (fun b z => ?_) fun _ => hk
    · by_cases hb : b = a
      · exact .inr ⟨_, _, if_pos hb⟩
      · exact .inl (if_neg hb)
    · by_cases hb : b = a
      · have z' := (if_pos hb).symm.trans z
        cases z'
        subst hb
        exact ⟨ha, by rw [List.length_map]; exact hl, vs, _, rv, ha⟩
      · have z' := (if_neg hb).symm.trans z
        cases z'
    · by_cases hb : b = a
      · exact hb
      · exact absurd (if_neg hb) z
end L2

namespace L2
open PySem PySem.Spec PyProof.Rows

abbrev KOf {K : PySem.W.Frag} {h : Heap} (_ : K.In h) : PySem.W.Frag := K

/-- the goal that k_head leaves (case hc), from the law's promise. F gives the function object fd (K's own) once, then the promise over every base -/
theorem walk_of {l : PySem.W.OpenLaw} {n k : Nat} {q : Program} {loose : List Str} {XP : (Str → Option Value) → Heap → Prop} {YP : World → Heap → Prop} {d : DefRec} {K : Params → PySem.W.Frag} {CX : World → CXT} {sp : World → Sp} {x : Str}
    (hn : l.most = some n) (hn2 : n ≤ sizeLine) (hdf : d.params.defaults = []) (hr : Room k callerA)
    (hY : ∀ (w : World) (h : Heap), YP w h → (K w.params).In h)
    (F : ∀ (w : World) (mg : Str → Option Value) (fa : Addr) (h : Heap), (K w.params).In h → h.Ns mainGlobals mg → mg d.name = some (.ref fa) →
      ∃ fd : FuncData, (∀ (s : Shared) (u : Value), BindsTo s fd ⟨[u], []⟩ [(x, u)]) ∧
        ∀ base : Heap, (K w.params).In base → base.Ns mainGlobals mg → FnOk l.prog w (K w.params) mg base (CX w) k fa fd [x] (sp w))
    (hsp : ∀ (w : World) (H : Hp) (a : Addr) (ns : List Int), ns.length ≤ n → Only H → SqL (K w.params) H a (ns.map V.int) → sp w [.ref a] H (fun v _ => v = .bl true) fun _ _ _ => False)
    (hCX : ∀ (w : World) (H : Hp) (s : Shared) (e : Value) (s' : Shared), CX w [] H s (fun _ _ _ => False) e s' → False) :
    PySem.W.WalkO q loose XP YP l.row.toRowW d [] (fun f vs => PySem.call f vs) := by
  refine Att.attach_call hn hdf fun w s₀ s₁ mg mb fa o pm cd doc a vs ns G Y ho hd hcd hmg hobj hints hlen hg => ?_
  have KX := hY w _ Y
  obtain ⟨fd, hb, hF⟩ := F w mg fa _ KX G.T.g hmg
  exact law_call KX G.T.g G.T.b G.T.builtins G.T.nolimit hg hobj hints (Nat.le_trans hlen hn2) hr hF hb (fun H hO hS => hsp w H a ns hlen hO hS) fun H e s' => hCX w H s₁ e s'
end L2

/- THE LAST THEOREM (shape; LID, My.* are yours):
   My.Adr: a structure of the addresses that your layer names (classes, functions); My.Txt K t: a structure (Prop) of the equations over K;
   My.txt_mk : {K} {implicit addresses ..} (e1 : nsIn K mainGlobals "law" = some (some (.ref f))) (e2 : K.lookup f = some ⟨oc, od, .func (fnOf "law" "law" params body scope dV kV doc pm an cdv ct), sl⟩) (e3 : codeIn K cdv "law" = true) .. : ∃ t, My.Txt K t

set_option maxRecDepth 100000 in
set_option maxHeartbeats 0 in
theorem PySem.Challenge.cw_LID_holds : PySem.Challenge.rw_LID.Holds := by
  w_on; o_law; k_head; (case hw => w_witness2)
  k_fill
  refine L2.walk_of (l := PySem.Challenge.rw_LID) (n := 63) (k := 40) (x := "script") (CX := fun w => ..) (sp := fun _ => My.sp_law) rfl (by decide) rfl ⟨rfl, by decide, by decide⟩ (fun w h Y => PySem.W.kIn_of Y) ?F ?S ?C
  case F =>
    intro w mg fa h KX G hmg
    have T : ∃ t, My.Txt (L2.KOf KX) t := by
      dsimp only [L2.KOf]                          -- K must stand as «<heap const> w.params» for k_is
      refine' My.txt_mk ?e1 ?e2 ?e3 ..
      (case e1 => PySem.W.k_is)                    -- in the order: a name -> its address -> its object -> its parts
      (case e2 => PySem.W.k_is)
      ..
    obtain ⟨t, T⟩ := T
    have e0 := hmg.symm.trans (PySem.W.mg_of KX G T.law)
    cases e0                                       -- fa is the law's own address
    exact ⟨_, fun s u => .of_eq rfl, fun base kb nb => My.law_fn T kb nb⟩     -- if «.of_eq rfl» comes too early: refine' ⟨_, ?b, fun base kb nb => My.law_fn T kb nb⟩; exact fun s u => .of_eq rfl
  case S => exact fun w H a ns hl hO hS => ..
  case C => exact ..
(the tactic k_is has no namespace: write k_is) -/

/-! SHORT WORDS over the layer: a def of the text, its body, what a loop and a test want. -/
namespace L2
open PySem PySem.Spec PyProof.Rows

/-! ### the text by places -/
/-- the j-th statement of a class's body -/
def inClass (s : Stmt) (j : Nat) : Stmt := match s with
  | .ClassDef _ _ _ body _ _ _ _ _ _ _ => body.getD j (.Pass ⟨0, 0, 0, 0⟩)
  | _ => .Pass ⟨0, 0, 0, 0⟩
def defArgs (s : Stmt) : Arguments := match s with
  | .FunctionDef _ a _ _ _ _ _ _ _ _ => a
  | _ => { posonlyargs := [], args := [], vararg := none, kwonlyargs := [], kw_defaults := [], kwarg := none, defaults := [] }
def defBody (s : Stmt) : List Stmt := match s with
  | .FunctionDef _ _ b _ _ _ _ _ _ _ => b
  | _ => []
def defScope (s : Stmt) : Scope := match s with
  | .FunctionDef _ _ _ _ _ _ sc _ _ _ => sc
  | _ => { kind := .function, names := [], isGenerator := false, isCoroutine := false }

/-! ### no exception leaves a def -/
abbrev CX0 : CXT := fun _ _ _ _ _ _ => False
abbrev E0 : XK := fun _ _ _ => False
theorem pass0 {X : Cx} : Passes CX0 X E0 := fun _ _ _ _ _ _ _ h => h.elim

/-! ### a def (or method) of the text as it stands behind the top -/
structure Fun (K : PySem.W.Frag) (x qual : Str) (st : Stmt) (f : Addr) (fd : FuncData) : Prop where
  ex : ∃ (oc : Value) (od : Option Addr) (kV doc pm : Value) (an : Option Addr) (cdv ct : Value) (osl : Array (Option Value)),
    fd = PySem.W.fnOf x qual (defArgs st) (defBody st) (defScope st) .none kV doc pm an cdv ct ∧ K.lookup f = some ⟨oc, od, .func fd, osl⟩ ∧ PySem.W.codeIn K cdv qual = true
  kp : PySem.W.keepIn K (.ref f) = true
section
variable {P : Program} {w : World} {K : PySem.W.Frag} {mg : Str → Option Value} {base : Heap}
/-- THE RULE for a def: its body as a term of rules, and the reading of that term -/
theorem Fun.ok {x qual : Str} {st : Stmt} {f : Addr} {fd : FuncData} {N ps : List Str} {k : Nat} {sp : Sp} (F : Fun K x qual st f fd) (S : FnScope N ps (defScope st)) (len : ∀ vs H Q E, sp vs H Q E → vs.length = ps.length)
    (hbody : ∀ (cdv : Value) (A : Around) (outer : List Env) (s : Shared) (H : Hp) (vs : List V) (Q : VK) (E : XK), Room k (A.deeper (envOfC qual (defScope st) s.heap.objs.size f cdv)) → sp vs H Q E →
      ∃ t, PSs (cxOf CX0 P w K mg base N qual (defScope st) f cdv A outer s H E).nox (defBody st) t ∧ t { nx := fun _ H' => Q .non H', rt := Q } (start N vs) H) : FnOk P w K mg base CX0 (k + 1) f fd ps sp := by
  obtain ⟨oc, od, kV, doc, pm, an, cdv, ct, osl, rfl, lk, hcd⟩ := F.ex
  refine fn_of lk hcd S len fun A outer s H vs Q E hr hsp => ?_
  obtain ⟨t, h, q⟩ := hbody cdv A outer s H vs Q E hr hsp
  exact ⟨t, h.nox, q⟩
/-- how its arguments bind (no defaults): h is «fun _ _ _ _ _ _ us hl => match us, hl with | [_, _], _ => rfl», one _ a parameter -/
theorem Fun.binds {x qual : Str} {st : Stmt} {f : Addr} {fd : FuncData} {ps : List Str} (F : Fun K x qual st f fd)
    (h : ∀ (kV doc pm : Value) (an : Option Addr) (cdv ct : Value) (us : List Value), us.length = ps.length → bindArgs (PySem.W.fnOf x qual (defArgs st) (defBody st) (defScope st) .none kV doc pm an cdv ct) ⟨us, []⟩ = pure (ps.zip us)) : Binds K fd ps [] := by
  obtain ⟨oc, od, kV, doc, pm, an, cdv, ct, osl, rfl, lk, hcd⟩ := F.ex
  exact .all (h kV doc pm an cdv ct)
theorem fun_mk {x qual : Str} {st : Stmt} {f : Addr} {oc : Value} {od an : Option Addr} {osl : Array (Option Value)} {kV doc pm cdv ct : Value} (l : K.lookup f = some ⟨oc, od, .func (PySem.W.fnOf x qual (defArgs st) (defBody st) (defScope st) .none kV doc pm an cdv ct), osl⟩)
    (c : PySem.W.codeIn K cdv qual = true) (k : PySem.W.keepIn K (.ref f) = true) : Fun K x qual st f (PySem.W.fnOf x qual (defArgs st) (defBody st) (defScope st) .none kV doc pm an cdv ct) := ⟨⟨oc, od, kV, doc, pm, an, cdv, ct, osl, rfl, l, c⟩, k⟩
end
theorem small1000 {n : Nat} (h : n ≤ 1000) : n < sizeLine := Nat.lt_of_le_of_lt h (by decide)

/-! ### expressions in short: the name that stands in the i-th slot -/
section
variable {X : Cx}
theorem pv (i : Nat) {x : Str} {pos : Pos} (hN : X.N[i]? = some x := by rfl) (hv : Vis X.env.scope x := by first | exact Or.inl rfl | exact Or.inr (Or.inl rfl) | exact Or.inr (Or.inr rfl)) (hd : (x == ("__debug__" : Str)) = false := by decide)
    (hcd : (x == ("__classdict__" : Str)) = false := by decide) : PE X (.Name x pos) (tVar i) := pe_var hN hv hd hcd
end

/-! ### tests -/
theorem iteF {A B : Prop} (h : B) : if false = true then A else B := by
  rw [if_neg Bool.false_ne_true]
  exact h
theorem ite2 {c A B : Prop} [Decidable c] (h1 : c → A) (h2 : ¬ c → B) : if c then A else B := by
  by_cases h : c
  · rw [if_pos h]
    exact h1 h
  · rw [if_neg h]
    exact h2 h
/-! ### heaps -/
/-- all that was tracked is as it was -/
def Same (H H' : Hp) : Prop := ∀ b o, H b = some o → H' b = some o
theorem Same.refl (H : Hp) : Same H H := fun _ _ h => h
theorem Same.trans {H H1 H2 : Hp} (a : Same H H1) (b : Same H1 H2) : Same H H2 := fun c o h => b c o (a c o h)
theorem Same.seq {K : PySem.W.Frag} {H H' : Hp} {a : Addr} {xs : List V} (e : Same H H') (h : SqL K H a xs) : SqL K H' a xs := by
  rcases h with (h | ⟨o, h⟩) | h
  · exact .inl (.inl (e _ _ h))
  · exact .inl (.inr ⟨o, e _ _ h⟩)
  · exact .inr h

end L2

namespace GM
/-- the greatest common divisor, as an int -/
def G (a b : Int) : Int := (Int.gcd a b : Int)
theorem G_zero {a : Int} (h : 0 ≤ a) : G a 0 = a := by
  unfold G
  rw [Int.gcd_zero_right]
  omega
theorem G_step (a b : Int) : G b (a % b) = G a b := by
  unfold G
  congr 1
  have e : a % b = a - b * (a / b) := by
    have := Int.emod_add_mul_ediv a b
    omega
  rw [e, Int.gcd_sub_mul_left_right, Int.gcd_comm]
theorem G_pos {a b : Int} (h : 0 < b) : 0 < G a b := by
  unfold G
  have : 0 < Int.gcd a b := Int.gcd_pos_of_ne_zero_right a (by omega)
  omega
theorem G_dvd_l (a b : Int) : G a b ∣ a := Int.gcd_dvd_left a b
theorem G_dvd_r (a b : Int) : G a b ∣ b := Int.gcd_dvd_right a b
theorem G_le_r {a b : Int} (h : 0 < b) : G a b ≤ b := Int.le_of_dvd h (G_dvd_r a b)
/-- an amount in lowest terms -/
structure Amt (t b : Int) : Prop where
  t0 : 0 ≤ t
  b1 : 1 ≤ b
  g : G t b = 1
theorem low_amt {t b : Int} (h0 : 0 ≤ t) (h1 : 1 ≤ b) : Amt (t / G t b) (b / G t b) := by
  have gp := G_pos (a := t) (b := b) (by omega)
  refine ⟨Int.ediv_nonneg h0 (by omega), Int.ediv_pos_of_pos_of_dvd (by omega) (by omega) (G_dvd_r t b), ?_⟩
  unfold G at *
  have := Int.gcd_ediv_gcd_ediv_gcd (i := t) (j := b) (by omega)
  omega
theorem low_l (t b : Int) : t / G t b * G t b = t := Int.ediv_mul_cancel (G_dvd_l t b)
theorem low_r (t b : Int) : b / G t b * G t b = b := Int.ediv_mul_cancel (G_dvd_r t b)
theorem dvd_cop {t b x : Int} (h : Amt t b) (d : b ∣ t * x) : b ∣ x := by
  have g1 : Int.gcd b t = 1 := by have := h.g; unfold G at this; rw [Int.gcd_comm]; omega
  have := Int.dvd_gcd_mul_iff_dvd_mul.mpr d
  rw [g1] at this
  simpa using this
theorem amt_unique {t b t' b' : Int} (h : Amt t b) (h' : Amt t' b') (e : t * b' = t' * b) : t = t' ∧ b = b' := by
  have d1 : b ∣ b' := dvd_cop h ⟨t', by rw [e, Int.mul_comm]⟩
  have d2 : b' ∣ b := dvd_cop h' ⟨t, by rw [← e, Int.mul_comm]⟩
  have p := h.b1
  have p' := h'.b1
  have eb : b = b' := Int.dvd_antisymm (by omega) (by omega) d1 d2
  subst eb
  exact ⟨Int.eq_of_mul_eq_mul_right (by omega) e, rfl⟩
/-- brought to lowest terms, the same fraction -/
theorem low_cross (t b : Int) : t / G t b * b = t * (b / G t b) := by
  have e1 := low_l t b
  have e2 := low_r t b
  calc t / G t b * b = t / G t b * (b / G t b * G t b) := by rw [e2]
    _ = t / G t b * G t b * (b / G t b) := by rw [Int.mul_comm (b / G t b), Int.mul_assoc]
    _ = t * (b / G t b) := by rw [e1]
theorem amt_one {t : Int} (h : 0 ≤ t) : Amt t 1 := by
  refine ⟨h, by omega, ?_⟩
  unfold G
  rw [Int.gcd_one_right]
  rfl
theorem low_unique {t b x y : Int} (h0 : 0 ≤ t) (h1 : 1 ≤ b) (h : Amt x y) (e : x * b = t * y) : t / G t b = x ∧ b / G t b = y := by
  have a := low_amt h0 h1
  refine amt_unique a h ?_
  have c := low_cross t b
  -- (t/g) * b = t * (b/g); x * b = t * y
  have gp := G_pos (a := t) (b := b) (by omega)
  have e1 := low_l t b
  have e2 := low_r t b
  refine Int.eq_of_mul_eq_mul_right (a := G t b) (by omega) ?_
  calc t / G t b * y * G t b = t / G t b * G t b * y := by rw [Int.mul_assoc, Int.mul_comm y, ← Int.mul_assoc]
    _ = x * b := by rw [e1, e]
    _ = x * (b / G t b) * G t b := by rw [Int.mul_assoc, e2]
end GM

namespace L2
open PySem PySem.Spec PyProof.Rows
/-! ### isinstance against a built-in type -/
inductive Isi (K : PySem.W.Frag) (H : Hp) : V → String → Bool → Prop where
  | int_int {n} : Isi K H (.int n) "int" true
  | int_bool {n} : Isi K H (.int n) "bool" false
  | int_tuple {n} : Isi K H (.int n) "tuple" false
  | int_str {n} : Isi K H (.int n) "str" false
  | int_list {n} : Isi K H (.int n) "list" false
  | bl_int {b} : Isi K H (.bl b) "int" true
  | bl_bool {b} : Isi K H (.bl b) "bool" true
  | bl_tuple {b} : Isi K H (.bl b) "tuple" false
  | bl_str {b} : Isi K H (.bl b) "str" false
  | str_int {x} : Isi K H (.str x) "int" false
  | str_bool {x} : Isi K H (.str x) "bool" false
  | str_tuple {x} : Isi K H (.str x) "tuple" false
  | str_str {x} : Isi K H (.str x) "str" true
  | non_int : Isi K H .non "int" false
  | non_str : Isi K H .non "str" false
  | non_tuple : Isi K H .non "tuple" false
  | tup_tuple {a xs} : SqT K H a xs → Isi K H (.ref a) "tuple" true
  | tup_int {a xs} : SqT K H a xs → Isi K H (.ref a) "int" false
  | tup_str {a xs} : SqT K H a xs → Isi K H (.ref a) "str" false
  | tup_list {a xs} : SqT K H a xs → Isi K H (.ref a) "list" false
  | lst_tuple {a xs} : SqL K H a xs → Isi K H (.ref a) "tuple" false
  | lst_int {a xs} : SqL K H a xs → Isi K H (.ref a) "int" false
  | lst_str {a xs} : SqL K H a xs → Isi K H (.ref a) "str" false
  | lst_list {a xs} : SqL K H a xs → Isi K H (.ref a) "list" true
section
variable {X : Cx}
theorem call_isi : CallR X (.builtin "isinstance") (fun xs H Q => ∃ x T b, xs = [x, .ty T] ∧ Isi X.K H x T b ∧ Q (.bl b) H) := by
  intro pins s σ H xs us Q I r h
  obtain ⟨x, T, b, rfl, hi, q⟩ := h
  obtain ⟨u, w', rfl, rx, ry⟩ := vals2 r
  cases ry
  have f1 : EP X pins σ Q (.bool b) s := ⟨.bl b, H, I, rfl, q⟩
  have f2 : EP X pins σ Q (.bool b) { s with toks := s.toks + 1 } := ⟨.bl b, H, I.tok _, rfl, q⟩
  cases hi with
  | int_int => obtain ⟨t, rfl⟩ := rx; exact IsiPair.int_int f1
  | int_bool => obtain ⟨t, rfl⟩ := rx; exact IsiPair.int_bool f2
  | int_tuple => obtain ⟨t, rfl⟩ := rx; exact IsiPair.int_tuple f2
  | int_str => obtain ⟨t, rfl⟩ := rx; exact IsiPair.int_str f2
  | int_list => obtain ⟨t, rfl⟩ := rx; exact IsiPair.int_list f2
  | bl_int => cases rx; exact IsiPair.bool_int f1
  | bl_bool => cases rx; exact IsiPair.bool_bool f1
  | bl_tuple => cases rx; exact IsiPair.bool_tuple f2
  | bl_str => cases rx; exact IsiPair.bool_str f2
  | str_int => obtain ⟨t, rfl⟩ := rx; exact IsiPair.str_int f2
  | str_bool => obtain ⟨t, rfl⟩ := rx; exact IsiPair.str_bool f2
  | str_tuple => obtain ⟨t, rfl⟩ := rx; exact IsiPair.str_tuple f2
  | str_str => obtain ⟨t, rfl⟩ := rx; exact IsiPair.str_str f1
  | non_int => cases rx; exact IsiPair.NoneType_int f2
  | non_str => cases rx; exact IsiPair.NoneType_str f2
  | non_tuple => cases rx; exact IsiPair.NoneType_tuple f2
  | tup_tuple hq => cases rx; obtain ⟨its, _, ⟨o, e, c, _⟩, _⟩ := I.tuple hq; exact IsiPair.tuple_tuple e c f1
  | tup_int hq => cases rx; obtain ⟨its, _, ⟨o, e, c, _⟩, _⟩ := I.tuple hq; exact IsiPair.tuple_int e c f2
  | tup_str hq => cases rx; obtain ⟨its, _, ⟨o, e, c, _⟩, _⟩ := I.tuple hq; exact IsiPair.tuple_str e c f2
  | tup_list hq => cases rx; obtain ⟨its, _, ⟨o, e, c, _⟩, _⟩ := I.tuple hq; exact IsiPair.tuple_list e c f2
  | lst_tuple hq => cases rx; obtain ⟨its, _, ⟨o, n, e, c, _⟩, _⟩ := I.list hq; exact IsiPair.list_tuple e c f2
  | lst_int hq => cases rx; obtain ⟨its, _, ⟨o, n, e, c, _⟩, _⟩ := I.list hq; exact IsiPair.list_int e c f2
  | lst_str hq => cases rx; obtain ⟨its, _, ⟨o, n, e, c, _⟩, _⟩ := I.list hq; exact IsiPair.list_str e c f2
  | lst_list hq => cases rx; obtain ⟨its, _, ⟨o, n, e, c, _⟩, _⟩ := I.list hq; exact IsiPair.list_list e c f1
/-! ### is, is not of bools -/
/-! ### == and != of tuples, at any depth: what the comparison tells -/
inductive DEq (K : PySem.W.Frag) (H : Hp) : Nat → V → V → Bool → Prop where
  | flat {n x y} : flatV x = true → flatV y = true → DEq K H n x y (eqV x y)
  | same {n a} : DEq K H n (.ref a) (.ref a) true
  | tup {n a b xs ys} {e : Nat → Bool} : a ≠ b → SqT K H a xs → SqT K H b ys → (∀ (j : Nat) x y, xs[j]? = some x → ys[j]? = some y → DEq K H n x y (e j)) →
      DEq K H (n + 1) (.ref a) (.ref b) ((List.range (min xs.length ys.length)).all e && xs.length == ys.length)
  | lst {n a b xs ys} {e : Nat → Bool} : a ≠ b → SqL K H a xs → SqL K H b ys → (∀ (j : Nat) x y, xs[j]? = some x → ys[j]? = some y → DEq K H n x y (e j)) →
      DEq K H (n + 1) (.ref a) (.ref b) ((List.range (min xs.length ys.length)).all e && xs.length == ys.length)
theorem tups_at {pins : List (Addr × Obj)} {σ : St} {H : Hp} {s : Shared} (I : Inv X pins σ H s) {A : Around} {a b : Addr} {xs ys : List V} {e : Nat → Bool} (hx : SqT X.K H a xs) (hy : SqT X.K H b ys) (hu : A.units < cLine)
    (hd : ∀ (j : Nat) x y u v, xs[j]? = some x → ys[j]? = some y → RelV x u → RelV y v → SeqAt.EqAt A.in1 s u v (e j)) :
    SeqAt.RcAt A s (.ref a) (.ref b) ((List.range (min xs.length ys.length)).all e && xs.length == ys.length) := by
  obtain ⟨its, r, tx, _⟩ := I.tuple hx
  obtain ⟨its', r', ty, _⟩ := I.tuple hy
  have l1 := r.length
  have l2 := r'.length
  have q := SeqAt.RcAt.tuples (A := A) (e := e) tx ty hu (fun j h1 h2 => ?_)
  · rw [List.size_toArray, List.size_toArray, ← l1, ← l2] at q
    exact q
  · rw [List.size_toArray] at h1 h2
    obtain ⟨x, hxj⟩ : ∃ x, xs[j]? = some x := ⟨_, List.getElem?_eq_getElem (by omega)⟩
    obtain ⟨y, hyj⟩ : ∃ y, ys[j]? = some y := ⟨_, List.getElem?_eq_getElem (by omega)⟩
    obtain ⟨u1, hu1, ru1⟩ := r.get hxj
    obtain ⟨u2, hu2, ru2⟩ := r'.get hyj
    have e1 : its.toArray[j] = u1 := by
      have := (List.getElem?_eq_some_iff.mp hu1).2
      simpa using this
    have e2 : its'.toArray[j] = u2 := by
      have := (List.getElem?_eq_some_iff.mp hu2).2
      simpa using this
    rw [e1, e2]
    exact hd j x y u1 u2 hxj hyj ru1 ru2
theorem isList_of {h : Heap} {a : Addr} {its : Array Value} (p : PlainL h a its) : h.IsList a its := by
  obtain ⟨o, n, e, c, _, d⟩ := p
  exact ⟨o, e, c, n, d⟩
theorem lsts_at {pins : List (Addr × Obj)} {σ : St} {H : Hp} {s : Shared} (I : Inv X pins σ H s) {A : Around} {a b : Addr} {xs ys : List V} {e : Nat → Bool} (hx : SqL X.K H a xs) (hy : SqL X.K H b ys) (hu : A.units < cLine)
    (hd : ∀ (j : Nat) x y u v, xs[j]? = some x → ys[j]? = some y → RelV x u → RelV y v → SeqAt.EqAt A.in1 s u v (e j)) :
    SeqAt.RcAt A s (.ref a) (.ref b) ((List.range (min xs.length ys.length)).all e && xs.length == ys.length) := by
  obtain ⟨its, r, tx, _⟩ := I.list hx
  obtain ⟨its', r', ty, _⟩ := I.list hy
  have l1 := r.length
  have l2 := r'.length
  by_cases hl : xs.length = ys.length
  · have q := SeqAt.RcAt.lists (A := A) (e := e) (isList_of tx) (isList_of ty) (by rw [List.size_toArray, List.size_toArray]; omega) hu (fun j h1 h2 => ?_)
    · rw [List.size_toArray, ← l1] at q
      have e1 : ((List.range (min xs.length ys.length)).all e && xs.length == ys.length) = (List.range xs.length).all e := by
        rw [← hl, Nat.min_self, beq_self_eq_true, Bool.and_true]
      rw [e1]
      exact q
    · rw [List.size_toArray] at h1 h2
      obtain ⟨x, hxj⟩ : ∃ x, xs[j]? = some x := ⟨_, List.getElem?_eq_getElem (by omega)⟩
      obtain ⟨y, hyj⟩ : ∃ y, ys[j]? = some y := ⟨_, List.getElem?_eq_getElem (by omega)⟩
      obtain ⟨u1, hu1, ru1⟩ := r.get hxj
      obtain ⟨u2, hu2, ru2⟩ := r'.get hyj
      have e1 : its.toArray[j] = u1 := by
        have := (List.getElem?_eq_some_iff.mp hu1).2
        simpa using this
      have e2 : its'.toArray[j] = u2 := by
        have := (List.getElem?_eq_some_iff.mp hu2).2
        simpa using this
      rw [e1, e2]
      exact hd j x y u1 u2 hxj hyj ru1 ru2
  · have q := SeqAt.RcAt.lists_lengths (A := A) (isList_of tx) (isList_of ty) (by rw [List.size_toArray, List.size_toArray, ← l1, ← l2, bne_iff_ne]; exact hl) hu
    have e1 : ((List.range (min xs.length ys.length)).all e && xs.length == ys.length) = false := by
      rw [beq_eq_false_iff_ne.mpr hl, Bool.and_false]
    rw [e1]
    exact q
theorem DEq.at {pins : List (Addr × Obj)} {σ : St} {H : Hp} {s : Shared} (I : Inv X pins σ H s) {n : Nat} {x y : V} {k : Bool} (d : DEq X.K H n x y k) : ∀ {A : Around} {u v : Value}, A.units + n < cLine → RelV x u → RelV y v → SeqAt.EqAt A s u v k := by
  induction d with
  | flat fx fy => intro A u v _ rx ry; exact eqAt_V rx ry fx fy
  | same => intro A u v _ rx ry; cases rx; cases ry; exact SeqAt.EqAt.same _
  | @tup n a b xs ys e hne hx hy hd ih =>
    intro A u v hu rx ry
    cases rx; cases ry
    exact SeqAt.EqAt.of_refs hne (tups_at I hx hy (by omega) fun j x y u v h1 h2 r1 r2 => ih j x y h1 h2 (by show A.units + 1 + n < cLine; omega) r1 r2)
  | @lst n a b xs ys e hne hx hy hd ih =>
    intro A u v hu rx ry
    cases rx; cases ry
    exact SeqAt.EqAt.of_refs hne (lsts_at I hx hy (by omega) fun j x y u v h1 h2 r1 r2 => ih j x y h1 h2 (by show A.units + 1 + n < cLine; omega) r1 r2)
/-- == of two tuples; the items' answers e -/
def rEqT (K : PySem.W.Frag) : R2 := fun x y H Q => ∃ a b xs ys, ∃ e : Nat → Bool, x = .ref a ∧ y = .ref b ∧ SqT K H a xs ∧ SqT K H b ys ∧ (∀ (j : Nat) x y, xs[j]? = some x → ys[j]? = some y → DEq K H 40 x y (e j)) ∧
  Q (.bl ((List.range (min xs.length ys.length)).all e && xs.length == ys.length)) H
def rNeT (K : PySem.W.Frag) : R2 := fun x y H Q => ∃ a b xs ys, ∃ e : Nat → Bool, x = .ref a ∧ y = .ref b ∧ SqT K H a xs ∧ SqT K H b ys ∧ (∀ (j : Nat) x y, xs[j]? = some x → ys[j]? = some y → DEq K H 40 x y (e j)) ∧
  Q (.bl (!((List.range (min xs.length ys.length)).all e && xs.length == ys.length))) H
theorem op_eqT (hu : X.A.units + 64 < cLine) : OpR X (compareOp .Eq) (rEqT X.K) := by
  intro pins s σ H x y v u Q I rx ry h
  obtain ⟨a, b, xs, ys, e, rfl, rfl, hx, hy, hd, q⟩ := h
  cases rx; cases ry
  exact tups_at I hx hy (by omega) (fun j x y u v h1 h2 r1 r2 => (hd j x y h1 h2).at I (by show X.A.units + 1 + 40 < cLine; omega) r1 r2) X.prog X.w X.xe _ ⟨.bl _, H, I, rfl, q⟩
end
end L2

namespace L2
open PySem PySem.Spec PyProof.Rows
/-! ### a list comprehension of one clause -/
/-- the loop of a comprehension, a turn at a time -/
theorem compLoop_gen {prog : Program} {w : World} {A : Around} {R : Result → Shared → Prop} {s : Shared} {elt target iter : Expr} {ifs : List Expr} {scope : Scope} {pos : Pos} {it acc : Value} {env : Env} (I : Nat → Shared → Prop)
    (turn : ∀ n s, I n s → wpAny (model prog w) A (pyNext it) (fun r s₁ => match r with
      | none => R (.ok .next) s₁
      | some v => wpAny (model prog w) A (letOwnedTupleGo target it v) (fun _ s₁' => wpAny (model prog w) A (assign target env v) (fun _ s₂ =>
          wpAny (model prog w) A (forIn ifs true fun c r => if r = true then do let ok ← isTrue c env (eval c env); pure (ForInStep.yield ok) else pure (ForInStep.yield r)) (fun ok s₃ =>
            if ok = true then wpAny (model prog w) A (eval elt env) (fun x s₄ =>
              wpAny (model prog w) A (call (.builtin "list.append") [acc, x]) (fun _ s₅ => ∃ m, m < n ∧ I m s₅) (fun _ _ => False) s₄) (fun _ _ => False) s₃
            else ∃ m, m < n ∧ I m s₃) (fun _ _ => False) s₂) (fun _ _ => False) s₁') (fun _ _ => False) s₁) (fun _ _ => False) s)
    (n : Nat) (h : I n s) : codeAny (model prog w) A (.compLoop (.ListComp elt [⟨target, iter, ifs, 0⟩] scope pos) 0 it acc env) R s := by
  refine codeAny_loop rfl I (fun n s hI => ?_) n h
  show wpAny _ A ((compTurn (.ListComp elt [⟨target, iter, ifs, 0⟩] scope pos) 0 it acc env).onRaise (fun x => do noteFrame x env; theTreesLotGoes x)) _ _ s
  refine wpAny_noted ?_
  rw [compTurn_list]
  refine wpAny_bind (wpAny_standAt (wpAny_bind (wpAny_mono (turn n s hI) (fun r s₁ h₁ => ?_) fun _ _ z => z.elim)))
  cases r with
  | none => exact wpAny_pure h₁
  | some v =>
    refine wpAny_bind (wpAny_mono h₁ (fun _ s₁' h₁' => ?_) fun _ _ z => z.elim)
    refine wpAny_bind (wpAny_mono h₁' (fun _ s₂ h₂ => wpAny_bind (wpAny_mono h₂ (fun ok s₃ h₃ => ?_) fun _ _ z => z.elim)) fun _ _ z => z.elim)
    cases ok with
    | false => exact wpAny_pure ⟨rfl, h₃⟩
    | true =>
      exact wpAny_bind (wpAny_bind (wpAny_mono h₃ (fun x s₄ h₄ => wpAny_bind (wpAny_mono h₄ (fun _ s₅ h₅ => wpAny_pure (wpAny_pure ⟨rfl, h₅⟩)) fun _ _ z => z.elim)) fun _ _ z => z.elim))
/-- the block's context -/
def blk (X : Cx) (N' : List Str) (scope : Scope) (cl : List (Str × Addr)) (C : Addr) (s₀ : Shared) (H₀ : Hp) (ex : List Addr) (pn : List (Addr × Obj)) : Cx where
  prog := X.prog
  w := X.w
  K := X.K
  mg := X.mg
  base := X.base
  A := X.A
  N := N'
  s₀ := s₀
  H₀ := H₀
  env := compEnvC scope cl C X.env
  outer := X.stack
  stack := X.stack
  ex := ex
  fn := fun _ => false
  calm := X.calm
  pn := pn
  xe := fun _ _ => False
structure ClOk (X : Cx) (scope : Scope) (cl : List (Str × Addr)) : Prop where
  run : closureFor scope X.env = pure cl
  sub : ∀ x c, cl.lookup x = some c → X.env.cells.lookup x = some c
  has : ∀ x, ((relabel scope X.env).names.lookup x = some .cell ∨ (relabel scope X.env).names.lookup x = some .free) → ∃ c, cl.lookup x = some c
/-- the names that the block takes over stand in cells -/
structure BlkN (X : Cx) (N' : List Str) (scope : Scope) (cl : List (Str × Addr)) (σ σ' : St) : Prop where
  len : σ'.length = N'.length
  from' : ∀ (i : Nat) (x : Str) (v : V), N'[i]? = some x → σ'[i]? = some (some v) → ∃ j : Nat, X.N[j]? = some x ∧ σ[j]? = some (some v) ∧ Vis X.env.scope x ∧ X.env.kindOf x ≠ some .local ∧
    ((relabel scope X.env).names.lookup x = some .cell ∨ (relabel scope X.env).names.lookup x = some .free)
section
variable {X : Cx} {pins : List (Addr × Obj)} {σ σ' : St} {H : Hp} {s : Shared}
theorem blk_start {N' : List Str} {scope : Scope} {cl : List (Str × Addr)} {fp : List Addr} {h₁ : Heap} {t' : Nat} (I : Inv X pins σ H s) (hkind : scope.kind = .function) (hcl : ClOk X scope cl) (hN : BlkN X N' scope cl σ σ') (hf : ∀ b ∈ fp, FpOk X pins H b) (hfo : ∀ b ∈ fp, b < s.heap.objs.size)
    (hns : h₁.Ns s.heap.objs.size (fun _ => none)) (hk : ∀ b o, s.heap.get? b = some o → h₁.get? b = some o) :
    Inv (blk X N' scope cl s.heap.objs.size s H fp (X.pn ++ pins)) [] σ' H { s with heap := h₁, toks := t' } := by
  have hfs : ∀ b, b ∉ (X.env.locals :: X.fs) → b ∉ frs X.stack := fun b hb z => hb (I.stkSub b z)
  refine ⟨⟨I.ok.mod, hkind, I.ok.glob, I.ok.blt, Nat.le_refl _, ?_, hcl.has, fun _ _ h => absurd h (by intro z; cases z), I.ok.hd, I.ok.frames, .inl rfl, ?_, I.bs, Nat.le_trans I.ok.bsz I.sz, ?_, ?_, I.stack, I.stkFree⟩,
    rfl, I.bare, Un.kept hk, ⟨_, hns, ?_⟩, ?_, I.hok.fresh (Nat.le_refl _), fun x c e => I.freeC x c (hcl.sub x c e), ?_, I.hok.kept hk, hN.len⟩
  · intro x y c h1 h2
    exact I.ok.inj x y c (hcl.sub x c h1) (hcl.sub y c h2)
  · intro b hb
    exact ⟨Nat.ne_of_lt (hfo b hb), fun x c e => (hf b hb).2.2.2.2.1 x c (hcl.sub x c e)⟩
  · intro b o e hb
    rcases (hf b hb).2.2.2.1 with q | q
    · exact I.ok.noex b o e q
    · exact absurd (Nat.lt_of_lt_of_le (Heap.lt_size e) (Nat.le_trans I.ok.bsz q)) (Nat.lt_irrefl _)
  · intro b hb
    refine hfs b fun z => ?_
    rcases List.mem_cons.mp z with z | z
    · exact (hf b hb).2.1 z
    · exact (hf b hb).2.2.1 z
  · intro i x v h1 h2 _
    obtain ⟨j, hj, hσ, hv, hnl, hk'⟩ := hN.from' i x v h1 h2
    obtain ⟨m, hn, hl⟩ := I.loc
    obtain ⟨u, r, l⟩ := hl j x v hj hσ hv
    refine ⟨u, r, .inr ⟨hk', ?_⟩⟩
    obtain ⟨c, hc⟩ := hcl.has x hk'
    rcases l with ⟨hloc, _⟩ | ⟨_, c', hc', hcell⟩
    · exact absurd hloc hnl
    · have e := hcl.sub x c hc
      rw [hc'] at e
      cases e
      obtain ⟨o, ho, hd⟩ := hcell
      exact ⟨_, hc, o, hk _ _ ho, hd⟩
  · intro x c e
    obtain ⟨v, o, ho, hd⟩ := I.cell x c (hcl.sub x c e)
    exact ⟨v, o, hk _ _ ho, hd⟩
  · intro p hp
    rw [show (blk X N' scope cl s.heap.objs.size s H fp (X.pn ++ pins)).pn = X.pn ++ pins from rfl, List.append_nil] at hp
    obtain ⟨a1, a2, a3, a4, a5⟩ := I.pin p hp
    refine ⟨hk _ _ a1, a2, Nat.ne_of_lt (Heap.lt_size a1), hfs _ fun z => ?_, a5⟩
    rcases List.mem_cons.mp z with z | z
    · exact a3 z
    · exact a4 z
theorem blk_end {N' : List Str} {scope : Scope} {cl : List (Str × Addr)} {fp : List Addr} {pl : List (Addr × Obj)} {H' : Hp} {s' : Shared} {h'' : Heap} (I : Inv X pins σ H s) (hf : ∀ b ∈ fp, FpOk X pins H b)
    (J : Inv (blk X N' scope cl s.heap.objs.size s H fp (X.pn ++ pins)) pl σ' H' s') (hs : Heap.SameBut s.heap.objs.size s'.heap h'') : Inv X pins σ H' { s' with heap := h'' } := by
  have hne : ∀ b o, s.heap.get? b = some o → b ≠ s.heap.objs.size := fun b o e => Nat.ne_of_lt (Heap.lt_size e)
  have hC : H' s.heap.objs.size = none := J.free
  have ub : Un (frs X.stack) fp H H' s.heap s'.heap := J.base
  have u : Un (frs X.stack) fp H H' s.heap h'' := {
    keep := fun b o e n hb hx => hs.extBut b o (hne b o e) (ub.keep b o e n hb hx)
    slot := fun b o e n hb hx => by
      obtain ⟨sl, q⟩ := ub.slot b o e n hb hx
      exact ⟨sl, hs.extBut b _ (hne b o e) q⟩
    free := ub.free
    there := fun b o e hx => by
      obtain ⟨o', q⟩ := ub.there b o e hx
      exact ⟨o', hs.extBut b _ (hne b o e) q⟩
    tups := ub.tups
    frzs := ub.frzs
    tbls := ub.tbls }
  have hok : HOk X.prog X.w H' h'' := fun a o e => (J.hok a o e).stay (fun b ob hb q => hs.extBut b ob (fun z => by
    rw [z] at hb
    rcases hb with hb | hb
    · rw [← hb, hC] at e; cases e
    · rw [hC] at hb; cases hb) q) (fun _ h => h) (fun _ _ h => h)
  exact I.call' (s' := { s' with heap := h'' }) J.os u hok J.bare fun b hb => by
    obtain ⟨f0, f1, f2, f3, f4, f5⟩ := hf b hb
    exact ⟨f3, f1, f4, f5⟩
end
end L2

namespace L2
open PySem PySem.Spec PyProof.Rows
/-- the tests of a clause -/
def PIfs (X : Cx) (ifs : List Expr) (t : TT) : Prop :=
  ∀ (pins : List (Addr × Obj)) (s : Shared) (σ : St) (H : Hp) (Q : Bool → Hp → Prop), Inv X pins σ H s → t σ H Q →
    wpAny (model X.prog X.w) X.A (forIn ifs true fun c r => if r = true then do let ok ← isTrue c X.env (eval c X.env); pure (ForInStep.yield ok) else pure (ForInStep.yield r)) (TP X pins σ Q) X.xe s
def tNoIf : TT := fun _ H Q => Q true H
theorem pifs_nil {X : Cx} : PIfs X [] tNoIf := fun _ _ _ H _ I h => wpAny_tests_nil ⟨H, I, h⟩
/-- the slots that were filled are as they were -/
structure Keep (σa σb : St) : Prop where
  len : σb.length = σa.length
  at' : ∀ (i : Nat) (v : V), σa[i]? = some (some v) → σb[i]? = some (some v)
theorem Keep.refl (σ : St) : Keep σ σ := ⟨rfl, fun _ _ h => h⟩
theorem Keep.set {σa σb : St} {i : Nat} {v : V} (k : Keep σa σb) (h : σa[i]? = some none) : Keep σa (σb.set i (some v)) := by
  refine ⟨by rw [List.length_set]; exact k.len, fun j u e => ?_⟩
  have hj : i ≠ j := by
    rintro rfl
    rw [h] at e
    cases e
  rw [List.getElem?_set_ne hj]
  exact k.at' j u e
def tComp (σf : St → St) (wi : TI) (g : TG) (tt : TT) (te : TE) : TE := fun σ H Q => wi σ H fun J H1 => ∀ D, H1 D = none → ∃ W : Nat → Nat → List V → Hp → Prop, (∃ m, W 0 m [] (upd H1 D (.lst []))) ∧
  ∀ i m ys H, W i m ys H → H D = some (.lst ys) ∧ ys.length < sizeLine ∧
    ((J.stop i H ∧ Q (.ref D) H) ∨ (J.go i H ∧ ∀ x H', J.yld i H x H' → g x (σf σ) H' fun σ2 H2 => Keep (σf σ) σ2 ∧ tt σ2 H2 fun b H3 =>
      if b = true then te σ2 H3 fun y H4 => H4 D = some (.lst ys) ∧ ∃ m', m' < m ∧ W (i + 1) m' (ys ++ [y]) (upd H4 D (.lst (ys ++ [y]))) else ∃ m', m' < m ∧ W (i + 1) m' ys H3))
theorem pe_comp {X : Cx} {elt tg iter : Expr} {ifs : List Expr} {scope : Scope} {pos : Pos} {N' : List Str} {cl : List (Str × Addr)} {wi : TI} {g : TG} {tt : TT} {te : TE} (σf : St → St)
    (hc : X.calm = true) (hkind : scope.kind = .function) (hcell : ∀ y ∈ scope.names, y.2 ≠ .cell) (hnames : ∀ y ∈ scope.names, y.2 = .local → scope.names.lookup y.1 = some .local) (hcl : ClOk X scope cl)
    (hN : ∀ σ : St, σ.length = X.N.length → BlkN X N' scope cl σ (σf σ)) (hi : PI X tg iter wi)
    (hg : ∀ C s₀ H₀ ex pn, PG (blk X N' scope cl C s₀ H₀ ex pn) tg g) (ht : ∀ C s₀ H₀ ex pn, PIfs (blk X N' scope cl C s₀ H₀ ex pn) ifs tt) (he : ∀ C s₀ H₀ ex pn, PE (blk X N' scope cl C s₀ H₀ ex pn) elt te)
    (hs : ∀ x, foldedSetIterable iter X.env x = pure x := by intro _; rfl) : PE X (.ListComp elt [⟨tg, iter, ifs, 0⟩] scope pos) (tComp σf wi g tt te) := by
  intro pins s σ H Q I h
  rw [eval_ListComp]
  refine wpAny_comprehension_free (use := none) rfl hs hcl.run hkind hnames (thn (hi pins s σ H _ I h) fun v s1 h1 => thn h1 fun itv s2 h2 => ?_)
  obtain ⟨it, fp, tn, J, H2, rfl, I2, T, st2, f2, q⟩ := h2
  refine wpAny_newObj_type (wpAny_newFunctionEnv hcell (by intro y hy; simp at hy) (fun h₁ hns₁ hsb₁ => ?_) hkind)
  dsimp only at hns₁ hsb₁ ⊢
  have hfo : ∀ b ∈ fp, b < s2.heap.objs.size := fun b hb => by
    obtain ⟨o, e, _⟩ := T.obj _ _ st2 b hb
    exact Heap.lt_size e
  have hDf : H2 s2.heap.objs.size = none := I2.hok.fresh (Nat.le_refl _)
  obtain ⟨W, ⟨m0, w0⟩, turn⟩ := q s2.heap.objs.size hDf
  have I3 : Inv X pins σ (upd H2 s2.heap.objs.size (.lst [])) { s2 with heap := s2.heap.push { cls := .type "list", data := .seq ([] : List Value).toArray } } := I2.lnew (its := []) (t' := s2.toks) .nil (Nat.zero_le _)
  have f3 : ∀ b ∈ fp, FpOk X pins (upd H2 s2.heap.objs.size (.lst [])) b := fun b hb => ⟨by rw [upd_ne (Nat.ne_of_lt (hfo b hb))]; exact (f2 b hb).1, (f2 b hb).2⟩
  generalize hD : s2.heap.objs.size = D at *
  generalize hs3 : ({ s2 with heap := s2.heap.push { cls := .type "list", data := .seq ([] : List Value).toArray } } : Shared) = s3 at *
  have hh3 : s3.heap = s2.heap.push { cls := .type "list", data := .seq ([] : List Value).toArray } := by rw [← hs3]
  have hsz3 : s2.heap.objs.size < s3.heap.objs.size := by rw [hh3, Heap.size_push]; exact Nat.lt_succ_self _
  have e3 : ∀ h t, ({ s2 with heap := h, toks := t } : Shared) = { s3 with heap := h, toks := t } := fun h t => by rw [← hs3]
  rw [← hh3] at hns₁ hsb₁ ⊢
  have hk3 : ∀ b o, s3.heap.get? b = some o → h₁.get? b = some o := fun b o e => hsb₁.extBut b o (Nat.ne_of_lt (Heap.lt_size e)) (Heap.get?_push_of_some _ e)
  have I4 := blk_start (t' := s3.toks) I3 hkind hcl (hN σ I.len) f3 (fun b hb => Nat.lt_trans (hfo b hb) (hD ▸ hsz3)) (hns := by simpa using hns₁) hk3
  generalize hB : blk X N' scope cl s3.heap.objs.size s3 (upd H2 D (.lst [])) fp (X.pn ++ pins) = B at *
  have hBp : B.prog = X.prog := by rw [← hB]; rfl
  have hBw : B.w = X.w := by rw [← hB]; rfl
  have hBK : B.K = X.K := by rw [← hB]; rfl
  have hBA : B.A = X.A := by rw [← hB]; rfl
  have hBc : B.calm = true := by rw [← hB]; exact hc
  have hBe : B.env = compEnvC scope cl s3.heap.objs.size X.env := by rw [← hB]; rfl
  have hBx : B.xe = fun _ _ => False := by rw [← hB]; rfl
  have hGB : PG B tg g := hB ▸ hg _ _ _ _ _
  have hTB : PIfs B ifs tt := hB ▸ ht _ _ _ _ _
  have hEB : PE B elt te := hB ▸ he _ _ _ _ _
  have stat : ∀ {H' : Hp}, (∀ b ∈ fp, H' b = none) → ∀ b ∈ fp, FpOk B [] H' b := fun {H'} hn b hb => by
    obtain ⟨f0, f1, f2', f3', f4, f5⟩ := f3 b hb
    rw [← hB]
    refine ⟨hn b hb, Nat.ne_of_lt (Nat.lt_trans (hfo b hb) (hD ▸ hsz3)), fun z => ?_, .inl hb, fun x c e => f4 x c (hcl.sub x c e), fun p hp => ?_⟩
    · rcases List.mem_cons.mp (I.stkSub b z) with z | z
      · exact f1 z
      · exact f2' z
    · rw [show (blk X N' scope cl s3.heap.objs.size s3 (upd H2 D (.lst [])) fp (X.pn ++ pins)).pn = X.pn ++ pins from rfl, List.append_nil] at hp
      exact f5 p hp
  have loop : ∀ s4 : Shared, Inv B [] (σf σ) (upd H2 D (.lst [])) s4 → tn 0 s4.heap →
      codeAny (model X.prog X.w) X.A (.compLoop (.ListComp elt [⟨tg, iter, ifs, 0⟩] scope pos) 0 (.ref it) (.ref D) (compEnvC scope cl s3.heap.objs.size X.env)) (compPost (model X.prog X.w) X.A X.xe none (EP X pins σ Q) (.ref D) s3.heap.objs.size) s4 := by
    intro s4 I4 st4
    refine compLoop_gen (I := fun n s' => ∃ i ys H', Inv B [] (σf σ) H' s' ∧ tn i s'.heap ∧ (∀ b ∈ fp, H' b = none) ∧ W i n ys H') ?_ m0 ⟨0, [], _, I4, st4, fun b hb => (f3 b hb).1, w0⟩
    rintro n s5 ⟨i, ys, H5, I5, st5, fr5, w5⟩
    obtain ⟨hD5, hlen5, alt⟩ := turn i n ys H5 w5
    rcases alt with ⟨stop, qn⟩ | ⟨go, step⟩
    · have z := T.done B hBp hBw hBK hBc i [] s5 (σf σ) H5 (fun _ _ => False) I5 (stat fr5) st5 stop
      rw [hBA] at z
      refine thn z fun r s6 ⟨hr, I6⟩ => ?_
      subst hr
      obtain ⟨m6, hn6, _⟩ := I6.loc
      rw [hBe] at hn6
      refine ⟨m6, hn6, fun h' hs' => ?_⟩
      subst hB
      exact ⟨.ref D, H5, blk_end I3 f3 I6 hs', rfl, qn⟩
    · have z := T.item B hBp hBw hBK hBc i [] s5 (σf σ) H5 (fun _ _ => False) I5 (stat fr5) st5 go
      rw [hBA] at z
      refine thn z fun r s6 ⟨u, hr, h6⟩ => ?_
      subst hr
      refine thn h6 fun _ s7 ⟨x, H7, I7, r7, y7, st7, fr7⟩ => ?_
      have I7' := I7.pinned (stat fr7) (T.obj _ _ st7)
      have z8 := hGB _ s7 (σf σ) H7 x u _ I7' r7 (step x H7 y7)
      rw [hBp, hBw, hBA, hBe, hBx] at z8
      refine thn z8 fun _ s8 ⟨σ8, H8, I8, k8, q8⟩ => ?_
      have z9 := hTB _ s8 σ8 H8 _ I8 q8
      rw [hBp, hBw, hBA, hBe, hBx] at z9
      refine thn z9 fun ok s9 ⟨H9, I9, q9⟩ => ?_
      have again : ∀ {ys' : List V} {H' : Hp} {s' : Shared}, Inv B ([] ++ pinsAt fp s7.heap) σ8 H' s' → (∃ m', m' < n ∧ W (i + 1) m' ys' H') → ∃ m, m < n ∧ ∃ i ys H', Inv B [] (σf σ) H' s' ∧ tn i s'.heap ∧ (∀ b ∈ fp, H' b = none) ∧ W i m ys H' := fun {ys' H' s'} J ⟨m', hm, w'⟩ => by
        refine ⟨m', hm, i + 1, ys', H', J.unpinned.weak k8.len.symm k8.at', T.keep _ _ _ st7 fun b hb o e => (J.pin (b, o) (List.mem_append_right _ (List.mem_append_right _ (mem_pinsAt hb e)))).1, fun b hb => ?_, w'⟩
        obtain ⟨o, e, d⟩ := T.obj _ _ st7 b hb
        exact (J.pin (b, o) (List.mem_append_right _ (List.mem_append_right _ (mem_pinsAt hb e)))).2.1
      cases ok with
      | false => exact again I9 q9
      | true =>
        have z10 := hEB _ s9 σ8 H9 _ I9 q9
        rw [hBp, hBw, hBA, hBe, hBx] at z10
        refine thn z10 fun y10 s10 ⟨y, H10, I10, r10, hD10, q10⟩ => ?_
        have z11 := mt_append (X := B) _ s10 σ8 H10 (.ref D) [y] (.ref D) [y10] (fun _ H' => ∃ m', m' < n ∧ W (i + 1) m' (ys ++ [y]) H') I10 rfl (.cons r10 .nil) ⟨D, ys, y, rfl, rfl, hD10, hlen5, q10⟩
        rw [hBp, hBw, hBA, hBx] at z11
        refine thn z11 fun _ s11 ⟨_, H11, I11, _, q11⟩ => again I11 q11
  have st4 : tn 0 ({ s3 with heap := h₁, toks := s3.toks } : Shared).heap := T.keep _ _ _ st2 fun b hb o e => hk3 b o (by rw [hh3]; exact Heap.get?_push_of_some _ e)
  have L4 := loop _ I4 st4
  subst hs3
  exact codeAny_compStart_list L4 (T.self _ 0 _ _ _ st4 L4)
end L2

namespace L2
open PySem PySem.Spec PyProof.Rows
/-! ### large ints: sizes in bits -/
def Bt (n : Nat) (x : Int) : Prop := x.natAbs < 2 ^ n
theorem Bt.bits {n : Nat} {x : Int} (h : Bt n x) : Builtin.Int.intBits x ≤ n := intBits_le_iff.mpr h
theorem Bt.of_bits {n : Nat} {x : Int} (h : Builtin.Int.intBits x ≤ n) : Bt n x := intBits_le_iff.mp h
theorem Bt.mono {m n : Nat} {x : Int} (h : Bt m x) (hn : m ≤ n) : Bt n x := Nat.lt_of_lt_of_le h (Nat.pow_le_pow_right (by decide) hn)
theorem Bt.mul {m n : Nat} {x y : Int} (h : Bt m x) (h' : Bt n y) : Bt (m + n) (x * y) := .of_bits (intBits_mul_le h.bits h'.bits)
theorem Bt.add {m : Nat} {x y : Int} (h : Bt m x) (h' : Bt m y) : Bt (m + 1) (x + y) := .of_bits (by have := intBits_add_le h.bits h'.bits; rwa [Nat.max_self] at this)
theorem Bt.sub {m : Nat} {x y : Int} (h : Bt m x) (h' : Bt m y) : Bt (m + 1) (x - y) := .of_bits (by have := intBits_sub_le h.bits h'.bits; rwa [Nat.max_self] at this)
theorem Bt.le {m : Nat} {x y : Int} (h : Bt m y) (h0 : 0 ≤ x) (hy : x ≤ y) : Bt m x := by
  unfold Bt at *
  omega
theorem Bt.div {m : Nat} {x y : Int} (h : Bt m x) (h0 : 0 ≤ x) : Bt m (x / y) := by
  unfold Bt at *
  have := Int.natAbs_ediv_le_natAbs x y
  omega
theorem log_of {n : Nat} {x : Int} (h : Bt n x) (hp : 0 < x) (hn : n ≤ 9000) : x.natAbs.log2 < 9000 := by
  have : x.natAbs.log2 < n := (Nat.log2_lt (by omega)).mpr h
  omega
def CMulB (i j : Int) : Prop := Bt 1000000 i ∧ Bt 1000000 j
def CDivB (_i j : Int) : Prop := 0 < j ∧ Bt 9000 j
def CPowB (i j : Int) : Prop := 0 ≤ j ∧ j ≤ 1000 ∧ Bt 1000 i
section
variable {X : Cx}
theorem op_mulB : OpR X (binaryOp .Mult) (rI CMulB fun i j => .int (i * j)) := opI fun _ _ _ _ _ _ _ hc q => mul_int q (.of_bits (Nat.le_trans hc.1.bits (by decide)) (Nat.le_trans hc.2.bits (by decide)))
theorem op_fdivB : OpR X (binaryOp .FloorDiv) (rI CDivB fun i j => .int (i / j)) := opI fun i j _ _ _ _ _ hc q => by
  have h1 : (0 : Int) < j := hc.1
  rw [← Int.fdiv_eq_ediv_of_nonneg i (Int.le_of_lt h1)] at q
  exact floordiv_int (by omega) q (.inl (PyProof.noPylong_of_log2 (log_of hc.2 h1 (Nat.le_refl _))))
theorem op_powB : OpR X (binaryOp .Pow) (rI CPowB fun i j => .int (i ^ j.toNat)) := opI fun i j _ _ _ _ _ hc q => by
  obtain ⟨h0, h1, h2⟩ := hc
  refine PyProof.Rows.pow_int h0 ?_ q
  have b := h2.bits
  have e : (2 : Int) ^ 27 = 134217728 := by decide
  have := Int.mul_le_mul (show (Builtin.Int.intBits i : Int) ≤ 1000 by omega) h1 h0 (by decide)
  omega
/-! ### tuples of ints -/
theorem deq_ints {K : PySem.W.Frag} {H : Hp} {n : Nat} (ns ms : List Int) : ∀ (j : Nat) x y, (ns.map V.int)[j]? = some x → (ms.map V.int)[j]? = some y → DEq K H n x y (ns[j]? == ms[j]?) := by
  intro j x y h1 h2
  rw [List.getElem?_map] at h1 h2
  cases e1 : ns[j]? with
  | none => rw [e1] at h1; cases h1
  | some a =>
    cases e2 : ms[j]? with
    | none => rw [e2] at h2; cases h2
    | some b =>
      rw [e1] at h1
      rw [e2] at h2
      cases h1
      cases h2
      have : (some a == some b) = eqV (V.int a) (V.int b) := by
        show (a == b) = (a == b)
        rfl
      rw [this]
      exact DEq.flat rfl rfl
theorem all_ints : ∀ (ns ms : List Int), ((List.range (min ns.length ms.length)).all (fun j => ns[j]? == ms[j]?) && ns.length == ms.length) = decide (ns = ms) := by
  intro ns ms
  rw [Bool.eq_iff_iff]
  simp only [Bool.and_eq_true, List.all_eq_true, List.mem_range, beq_iff_eq, decide_eq_true_eq]
  constructor
  · rintro ⟨h, hl⟩
    refine List.ext_getElem? fun i => ?_
    by_cases hi : i < ns.length
    · exact h i (by omega)
    · rw [List.getElem?_eq_none (by omega), List.getElem?_eq_none (by omega)]
  · rintro rfl
    exact ⟨fun _ _ => rfl, rfl⟩
def rEqI (K : PySem.W.Frag) : R2 := fun x y H Q => ∃ a b, ∃ ns ms : List Int, x = .ref a ∧ y = .ref b ∧ SqT K H a (ns.map V.int) ∧ SqT K H b (ms.map V.int) ∧ Q (.bl (decide (ns = ms))) H
def rNeI (K : PySem.W.Frag) : R2 := fun x y H Q => ∃ a b, ∃ ns ms : List Int, x = .ref a ∧ y = .ref b ∧ SqT K H a (ns.map V.int) ∧ SqT K H b (ms.map V.int) ∧ Q (.bl (!decide (ns = ms))) H
theorem op_eqI (hu : X.A.units + 64 < cLine) : OpR X (compareOp .Eq) (rEqI X.K) := by
  intro pins s σ H x y v u Q I rx ry h
  obtain ⟨a, b, ns, ms, rfl, rfl, hx, hy, q⟩ := h
  refine op_eqT hu pins s σ H _ _ v u Q I rx ry ⟨a, b, _, _, fun j => ns[j]? == ms[j]?, rfl, rfl, hx, hy, deq_ints ns ms, ?_⟩
  rw [List.length_map, List.length_map, all_ints]
  exact q
theorem nes_at {pins : List (Addr × Obj)} {σ : St} {H : Hp} {s : Shared} (I : Inv X pins σ H s) {A : Around} {a b : Addr} {xs ys : List V} {e : Nat → Bool} (hx : SqT X.K H a xs) (hy : SqT X.K H b ys) (hu : A.units < cLine)
    (hd : ∀ (j : Nat) x y u v, xs[j]? = some x → ys[j]? = some y → RelV x u → RelV y v → SeqAt.EqAt A.in1 s u v (e j)) :
    SeqAt.RcNeAt A s (.ref a) (.ref b) (!((List.range (min xs.length ys.length)).all e && xs.length == ys.length)) := by
  obtain ⟨its, r, tx, _⟩ := I.tuple hx
  obtain ⟨its', r', ty, _⟩ := I.tuple hy
  have l1 := r.length
  have l2 := r'.length
  have q := SeqAt.RcNeAt.tuples (A := A) (e := e) tx ty hu (fun j h1 h2 => ?_)
  · rw [List.size_toArray, List.size_toArray, ← l1, ← l2] at q
    exact q
  · rw [List.size_toArray] at h1 h2
    obtain ⟨x, hxj⟩ : ∃ x, xs[j]? = some x := ⟨_, List.getElem?_eq_getElem (by omega)⟩
    obtain ⟨y, hyj⟩ : ∃ y, ys[j]? = some y := ⟨_, List.getElem?_eq_getElem (by omega)⟩
    obtain ⟨u1, hu1, ru1⟩ := r.get hxj
    obtain ⟨u2, hu2, ru2⟩ := r'.get hyj
    have e1 : its.toArray[j] = u1 := by
      have := (List.getElem?_eq_some_iff.mp hu1).2
      simpa using this
    have e2 : its'.toArray[j] = u2 := by
      have := (List.getElem?_eq_some_iff.mp hu2).2
      simpa using this
    rw [e1, e2]
    exact hd j x y u1 u2 hxj hyj ru1 ru2
theorem op_neT (hu : X.A.units + 64 < cLine) : OpR X (compareOp .NotEq) (rNeT X.K) := by
  intro pins s σ H x y v u Q I rx ry h
  obtain ⟨a, b, xs, ys, e, rfl, rfl, hx, hy, hd, q⟩ := h
  cases rx; cases ry
  exact nes_at I hx hy (by omega) (fun j x y u v h1 h2 r1 r2 => (hd j x y h1 h2).at I (by show X.A.units + 1 + 40 < cLine; omega) r1 r2) X.prog X.w X.xe _ ⟨.bl _, H, I, rfl, q⟩
end
end L2

namespace L2
open PySem PySem.Spec PyProof.Rows
section
variable {X : Cx}
/-- an item of the tuple that a name holds -/
def tIt (K : PySem.W.Frag) (i k : Nat) : TE := fun σ H Q => ∃ p xs v, σ[i]? = some (some (.ref p)) ∧ SqT K H p xs ∧ xs[k]? = some v ∧ Q v H
theorem pit (i k : Nat) {x : Str} {p q : Pos} {j : Nat} (hN : X.N[i]? = some x := by rfl) (hv : Vis X.env.scope x := by first | exact Or.inl rfl | exact Or.inr (Or.inl rfl) | exact Or.inr (Or.inr rfl)) (hd : (x == ("__debug__" : Str)) = false := by decide)
    (hcd : (x == ("__classdict__" : Str)) = false := by decide) {pos : Pos} : PE X (.Subscript (.Name x p) (.Constant (.int (k : Int)) j q) pos) (tIt X.K i k) := by
  intro pins s σ H Q I h
  obtain ⟨a, xs, v, e, hs, hk, q⟩ := h
  exact pe_ix ix_tup (pe_var hN hv hd hcd) pe_int (fun _ _ => rfl) pins s σ H Q I ⟨_, e, a, xs, (k : Int), v, rfl, rfl, hs, atI_nat hk, q⟩
/-- a def of the text that may be called by its name -/
structure Cal (P : Program) (w : World) (K : PySem.W.Frag) (mg : Str → Option Value) (base : Heap) (CX : CXT) (k : Nat) (x : Str) (ps : List Str) (sp : Sp) : Prop where
  ex : ∃ (f : Addr) (fd : FuncData), mg x = some (.ref f) ∧ PySem.W.keepIn K (.ref f) = true ∧ Binds K fd ps [] ∧ FnOk P w K mg base CX k f fd ps sp
theorem pe_cal {CX : CXT} {k : Nat} {x : Str} {ps : List Str} {sp : Sp} {E : XK} {e : Expr} {es : List Expr} {t : TA} {p pos : Pos} (C : Cal X.prog X.w X.K X.mg X.base CX k x ps sp) (hr : Room k X.A) (hg : Gl X x) (hx : Passes CX X E)
    (ha : PA X (e :: es) t) (hdb : (x == ("__debug__" : Str)) = false := by decide) (he : starEach (e :: es) X.env = (false, eval e X.env) :: starEach es X.env := by rfl) (hpl : (backTo pos (starEach es X.env)).any (·.1) = false := by rfl) :
    PE X (.Call (.Name x p) (e :: es) [] pos) (tCall sp [] E t) := by
  obtain ⟨f, fd, hm, hk, hb, F⟩ := C.ex
  exact pe_call F hr hg hm hk hb .nil hx ha hdb he hpl
theorem Cal.mono {P : Program} {w : World} {K : PySem.W.Frag} {mg : Str → Option Value} {base : Heap} {CX : CXT} {j k : Nat} {x : Str} {ps : List Str} {sp : Sp} (C : Cal P w K mg base CX j x ps sp) (h : j ≤ k) : Cal P w K mg base CX k x ps sp := by
  obtain ⟨f, fd, hm, hk, hb, F⟩ := C.ex
  exact ⟨f, fd, hm, hk, hb, F.mono h⟩
end
theorem Same.tup {K : PySem.W.Frag} {H H' : Hp} {a : Addr} {xs : List V} (e : Same H H') (h : SqT K H a xs) : SqT K H' a xs := by
  rcases h with (h | ⟨o, h⟩) | h
  · exact .inl (.inl (e _ _ h))
  · exact .inl (.inr ⟨o, e _ _ h⟩)
  · exact .inr h
theorem Same.upd {H : Hp} {a : Addr} {o : HO} (h : H a = none) : Same H (upd H a o) := fun b u e => by
  rw [upd_ne (ne_of_none e h)]
  exact e
/-- a new tuple of ints comes back, all else as it was -/
def RetT (H : Hp) (Q : VK) (ns : List Int) : Prop := ∀ p H', Same H H' → H' p = some (.tup (ns.map V.int)) → Q (.ref p) H'
end L2

namespace L2
open PySem PySem.Spec PyProof.Rows PySem.W
/-- an own class of errors, as the top has made it -/
structure ExK (K : Frag) (C : Addr) : Prop where
  ga : findIn K (.ref C) "__getattribute__" = some (some (.builtin "BaseException.__getattribute__"))
  gt : findIn K (.ref C) "__getattr__" = some none
  cl : findIn K (.ref C) "__class__" = some (some (.builtin "object.__class__"))
  sb : subIn K (.ref C) (.type "BaseException") = some true
  so : subIn K (.ref C) (.type "object") = some true
  ci : (clsIn K C).isSome = true
/-- an object of the class at C stands at a -/
structure ExAt (h : Heap) (a : Addr) (o : Obj) (C : Addr) : Prop where
  at_ : h.get? a = some o
  cls : o.cls = .ref C
section
variable {prog : Program} {w : World} {A : Around} {E : Value → Shared → Prop} {h : Heap} {g : Array GenState} {d : Drawn} {t : Nat} {os : OsState} {a C : Addr} {o : Obj} {K : Frag}
end
/-- an object of an own class of errors stands at a: what is tracked of it -/
def excO (a C : Addr) : HO := .ext fun h => ∃ o, ExAt h a o C
section
variable {X : Cx}
end
end L2

namespace L2
open PySem PySem.Spec PyProof.Rows PySem.W
/-! ### an error on its way, with its own dict -/
/-- an error at e with a traceback, its class, its dict -/
def TrD (h base : Heap) (e : Addr) (cls : Value) (dd : Option Addr) (fl : Value) : Prop :=
  ∃ (ob tb : Obj) (us ts : Array Value) (T : Addr), (h.get? e = some ob ∧ ob.data = .fields us ∧ ob.cls = cls ∧ ob.dict = dd) ∧ us[1]? = some (.ref T) ∧ (base.get? T = none ∧ T ≠ e) ∧ h.get? T = some tb ∧ tb.data = .fields ts ∧ ts[3]? = some fl
structure FlyD (base : Heap) (l : List Env) (e : Addr) (cls : Value) (dd : Option Addr) (fl : Value) (h : Heap) : Prop where
  st : base.StaysIn h
  no : base.get? e = none
  fr : h.FunFrames base l
  tr : TrD h base e cls dd fl
section
variable {M : Model} {A : Around} {E : Value → Shared → Prop} {s : Shared} {base : Heap} {env : Env} {outer : List Env} {L e : Addr} {Q : Unit → Shared → Prop} {cls : Value} {dd : Option Addr}
end
end L2

namespace L2
open PySem PySem.Spec PyProof.Rows PySem.W
/-- an error is under way, with its own dict: what is known behind a call that ended so (s, H: ahead of the call) -/
structure Flx (P : Program) (w : World) (outer : List Env) (H : Hp) (s : Shared) (H' : Hp) (ea : Addr) (cls : Value) (dd : Option Addr) (s' : Shared) : Prop where
  os : s'.os = s.os
  bare : AllBare s'.gens
  un : Un (frs outer) [] H H' s.heap s'.heap
  fl : ∃ B : Heap, HOk P w H' B ∧ FlyD B outer ea cls dd .none s'.heap ∧ (∀ b o, s.heap.get? b = some o → H b = none → b ∉ frs outer → B.get? b = some o) ∧ (∀ b o, s.heap.get? b = some o → b ∉ frs outer → ∃ o', B.get? b = some o')
def CXg (P : Program) (w : World) : CXT := fun outer H s E e s' => ∃ (ea C : Addr) (dd : Option Addr) (H' : Hp), e = .ref ea ∧ Flx P w outer H s H' ea (.ref C) dd s' ∧ E (.ref C) dd H'
/-- a def's body running: it has a frame of its own and nothing that was made ahead of it turns -/
structure OwnF (X : Cx) : Prop where
  stk : X.stack = X.env :: X.outer
  fr : X.env.frame = some X.env.locals
  ex : X.ex = []
section
variable {X : Cx} {pins : List (Addr × Obj)} {σ : St} {H H' : Hp} {s s' : Shared}
end
/-- the body of a def that may raise -/
abbrev cxF (P : Program) (w : World) (K : Frag) (mg : Str → Option Value) (base : Heap) (N : List Str) (qual : Str) (scope : Scope) (f : Addr) (cd : Value) (A : Around) (outer : List Env) (s : Shared) (H : Hp) (E : XK) : Cx := cxOf (CXg P w) P w K mg base N qual scope f cd A outer s H E
section
variable {P : Program} {w : World} {K : Frag} {mg : Str → Option Value} {base : Heap} {N : List Str} {qual : Str} {scope : Scope} {f : Addr} {cd : Value} {A : Around} {outer : List Env} {s : Shared} {H : Hp} {E : XK}
/-- an error that stands there, untracked, leaves -/
def XeOk (X : Cx) (E : XK) : Prop := ∀ (pins : List (Addr × Obj)) (σ : St) (H : Hp) (s : Shared) (ea C : Addr) (ob : Obj) (us : Array Value), Inv X pins σ H s → H ea = none → X.s₀.heap.get? ea = none → s.heap.get? ea = some ob → ob.cls = .ref C → ob.data = .fields us → us[1]? = some .none → E (.ref C) ob.dict H → X.xe (.ref ea) s
end
end L2

namespace L2
open PySem PySem.Spec PyProof.Rows PySem.W
/-- the class that an except names -/
structure CtK (K : Frag) (D : Addr) : Prop where
  ty : typeIn K (.ref D) = some (.type "type")
  ci : (clsIn K D).isSome = true
  sb : subIn K (.ref D) (.type "BaseException") = some true
/-! ### raise -/
abbrev bmV : List Value := [.type "ValueError", .type "Exception", .type "BaseException", .type "object"]
structure ClsObj (h : Heap) (C : Addr) (bmB : List Value) (newId : String) : Prop where
  ex : ∃ (nm q : Str) (N : Addr) (bs bm : List Value) (hdct : Bool) (sn : List Str) (sub : List Value) (ab : Bool) (col : Option Bool) (dd : Option Addr) (k0 k1 k2 k3 k5 : Option Value) (mN : Str → Option Value),
    h.get? C = some (excClassObj nm q C N bs bm hdct sn sub ab col dd k0 k1 k2 k3 k5 newId) ∧ h.Ns N mN ∧ mN "__init__" = none ∧ OwnTail h bmB bm
/-- an error of the class at C that was caught, its dict -/
def excD (a C : Addr) (dd : Option Addr) : HO := .ext fun h => ∃ o, ExAt h a o C ∧ o.dict = dd ∧ ∃ us, o.data = .fields us
def tRaise (C : Addr) (E : XK) (t : TA) : TS := fun _ σ H => t σ H fun vs H1 => vs.length ≤ sizeLine ∧ E (.ref C) none H1
section
variable {X : Cx}
end
/-- within an except suite, from which nothing is raised -/
abbrev Cx.within (X : Cx) (v : Value) : Cx := { X with A := X.A.mark (some v), calm := false, xe := fun _ _ => False }
/-- within a try: what is wanted of an error, and pins that every state bears -/
abbrev Cx.trying (X : Cx) (pins : List (Addr × Obj)) (E : Value → Shared → Prop) : Cx := { X with pn := X.pn ++ pins, xe := E }
section
variable {X : Cx} {pins : List (Addr × Obj)} {σ : St} {H H' : Hp} {s s' : Shared}
/-- an error of the body is caught under the name n and kept under the name y (slot j) -/
def tTry (K : Frag) (N j : Nat) (Dc : Addr) (tb : XK → TS) : TS := fun D σ H => tb (fun cls dd H' => ∃ C, cls = .ref C ∧ ExK K C ∧ subIn K (.ref C) (.ref Dc) = some true ∧ ∀ a, H' a = none → D.nx ((List.replicate N none).set j (some (.ref a))) (upd H' a (excD a C dd))) D σ H
end
end L2

namespace L2
open PySem PySem.Spec PyProof.Rows PySem.W
/-! ### an own class of errors with an __init__ of its own -/
/-- the class at C stands under the one at P, which stands under ValueError; its __init__ is the def at f -/
def xiIn (K : Frag) (C P f : Addr) : Bool := match K.lookup C with
  | some ⟨.type "type", _, .cls cd, sl⟩ => (match cd.mro, sl.toList with
    | .ref C' :: .ref P' :: bm, [_, _, _, _, some (.builtin n), _] => C' == C && P' == P && n == "ValueError.__new__" && !cd.hasDel && cd.hasDict && tailIn K bmV (.ref P' :: bm) && nsOkIn K cd.ns && nsIn K cd.ns "__init__" == some (some (.ref f)) && bm == bmV
    | _, _ => false)
  | _ => false
structure ClsI (h : Heap) (C P f : Addr) : Prop where
  ex : ∃ (nm q : Str) (N : Addr) (bs : List Value) (sn : List Str) (sub : List Value) (ab : Bool) (col : Option Bool) (dd : Option Addr) (k0 k1 k2 k3 k5 : Option Value) (mN : Str → Option Value),
    h.get? C = some (excClassObj nm q C N bs (.ref P :: bmV) true sn sub ab col dd k0 k1 k2 k3 k5 "ValueError.__new__") ∧ h.Ns N mN ∧ mN "__init__" = some (.ref f) ∧ OwnTail h bmV (.ref P :: bmV)
section
variable {prog : Program} {w : World} {A : Around} {E : Value → Shared → Prop} {h : Heap} {g : Array GenState} {d : Drawn} {t : Nat} {os : OsState} {K : Frag} {C P f : Addr}
/-- what stands there when __init__ is called -/
abbrev excNew (h : Heap) (C : Addr) (rest : List Value) : Heap := (h.push { cls := .type "tuple", data := .seq rest.toArray }).push { cls := .ref C, data := .fields #[.ref h.objs.size, .none, .none, .none, .bool false, .none] }
end
end L2

namespace L2
open PySem PySem.Spec PyProof.Rows PySem.W
/-- an error that is being made, or was made and is not raised yet: its class, its dict -/
def exN (a C : Addr) (dd : Option Addr) : HO := .ext fun h => ∃ o t, (h.get? a = some o ∧ o.cls = .ref C ∧ o.dict = dd) ∧ o.data = .fields #[t, .none, .none, .none, .bool false, .none]
/-- what is no more tracked -/
def rem (H : Hp) (a : Addr) : Hp := fun b => if b = a then none else H b
section
variable {X : Cx} {pins : List (Addr × Obj)} {σ : St} {H : Hp} {s : Shared}
end
/-- an own class of errors with an __init__, as the top made it -/
structure ExI (K : Frag) (C P f : Addr) : Prop where
  xi : xiIn K C P f = true
  fn : typeIn K (.ref f) = some (.type "function")
  kp : keepIn K (.ref C) = true
  k : ExK K C
/-- raise C(..): the error is made, __init__ runs, it leaves -/
def tRaiseI (C : Addr) (sp : Sp) (E : XK) (t : TA) : TS := fun _ σ H => t σ H fun vs H1 => vs.length ≤ sizeLine ∧ ∀ e, H1 e = none →
  sp (.ref e :: vs) (upd H1 e (exN e C none)) (fun v H2 => v = .non ∧ ∃ dd, H2 e = some (exN e C dd) ∧ E (.ref C) dd (rem H2 e)) E0
section
variable {X : Cx}
end
end L2

namespace L2
open PySem PySem.Spec PyProof.Rows PySem.W PySem.Builtin PySem.Builtin.ObjectAttr
section
variable {prog : Program} {w : World} {A : Around} {E : Value → Shared → Prop} {h : Heap} {g : Array GenState} {d : Drawn} {t : Nat} {os : OsState} {K : Frag} {C P f a : Addr} {o : Obj} {name : Str} {v : Value}
/-! ### e.name -/
end
/-! ### in the layer -/
/-- what the top made of a class of errors with fields: no attribute of the class has a field's name -/
structure ExF (K : Frag) (C P f : Addr) (x : Str) : Prop where
  i : ExI K C P f
  sa : findIn K (.ref C) "__setattr__" = some (some (.builtin "object.__setattr__"))
  nn : findIn K (.ref C) x = some none
/-- the dict of an error -/
def xdE (a : Addr) (fs : List (Str × V)) : HO := .ext fun h => ∃ mA, h.Ns1 a mA ∧ (∀ g, RelO (fs.lookup g) (mA g)) ∧ Within mA (fs.map (·.1))
section
variable {X : Cx} {pins : List (Addr × Obj)} {σ : St} {H : Hp} {s : Shared} {o e value : Expr} {x : Str} {pos pos' : Pos} {ta tv : TE} {C P f : Addr}
/-- e.x = value, the first one -/
def sExN (K : Frag) (C P f : Addr) (ta tv : TE) (x : Str) : TS := fun D σ H => tv σ H fun y H1 => ta σ H1 fun z H2 => ∃ a, z = .ref a ∧ H2 a = some (exN a C none) ∧ ExF K C P f x ∧
  ∀ dx, H2 dx = none → dx ≠ a → D.nx σ (upd (upd H2 a (exN a C (some dx))) dx (xdE dx [(x, y)]))
end
end L2

namespace L2
open PySem PySem.Spec PyProof.Rows PySem.W PySem.Builtin PySem.Builtin.ObjectAttr
section
variable {prog : Program} {w : World} {A : Around} {E : Value → Shared → Prop} {h : Heap} {g : Array GenState} {d : Drawn} {t : Nat} {os : OsState} {K : Frag} {C P f a : Addr} {o : Obj} {v : Value}
end
/-- the class whose __init__ is called by its name -/
structure BaseI (K : Frag) (P : Addr) : Prop where
  rd : readsIn K P (.type "type") = true
  fc : findCls K (.ref P) (.type "type") "__init__" = some (.val (.builtin "ValueError.__init__"))
  ga : specialIn K (.ref P) "__getattribute__" = some (some (.builtin "type.__getattribute__"))
section
variable {X : Cx} {C P f : Addr} {x : Str} {p apos pos : Pos} {e₁ e₂ : Expr} {t : TA}
/-- Base.__init__(self, text) -/
def tBInit (K : Frag) (P : Addr) (t : TA) : TE := fun σ H Q => t σ H fun vs H1 => ∃ a C dd f txt, vs = [.ref a, .str txt] ∧ H1 a = some (exN a C dd) ∧ ExI K C P f ∧ Q .non H1
/-! ### e.x of an error that was caught -/
def tExF (K : Frag) (ta : TE) (x : Str) : TE := fun σ H Q => ta σ H fun z H1 => ∃ a C P f dx fs v, z = .ref a ∧ H1 a = some (excD a C (some dx)) ∧ H1 dx = some (xdE dx fs) ∧ ExF K C P f x ∧ fs.lookup x = some v ∧ Q v H1
end
end L2

namespace L2
open PySem PySem.Spec PyProof.Rows PySem.W
/-! ### f-strings -/
/-- what stands in an f-string for a value -/
def FmtV : V → Str → Prop
  | .int i, x => i.natAbs.log2 < 1920 ∧ x = (toString i : String)
  | .str y, x => y.length ≤ sizeLine ∧ x = y
  | .non, x => x = "None"
  | _, _ => False
def tFmt (ta : TE) : TE := fun σ H Q => ta σ H fun v H1 => ∃ x, FmtV v x ∧ Q (.str x) H1
abbrev TJ := Str → St → Hp → (Str → Hp → Prop) → Prop
/-- the parts of an f-string, behind what was joined so far -/
def PJ (X : Cx) (es : List Expr) (t : TJ) : Prop :=
  ∀ (acc : Str) (pins : List (Addr × Obj)) (s : Shared) (σ : St) (H : Hp) (Q : Str → Hp → Prop), Inv X pins σ H s → t acc σ H Q → wpAny (model X.prog X.w) X.A (joinParts acc (evalEach es X.env)) (EP X pins σ fun v H' => ∃ x, v = .str x ∧ Q x H') X.xe s
def jNil : TJ := fun acc _ H Q => acc.length ≤ sizeLine ∧ Q acc H
def jCons (te : TE) (tr : TJ) : TJ := fun acc σ H Q => te σ H fun v H1 => ∃ x, v = .str x ∧ (acc ++ x).length ≤ sizeLine ∧ tr (acc ++ x) σ H1 Q
def tJoin (t : TJ) : TE := fun σ H Q => t Str.empty σ H fun x H' => Q (.str x) H'
section
variable {X : Cx} {value e e' : Expr} {es : List Expr} {ta te : TE} {tr t : TJ} {pos : Pos}
end
end L2

namespace L2
open PySem PySem.Spec PyProof.Rows PySem.W
/-! ### over a text, sign by sign -/
def Its (x : Str) : It := ⟨fun i _ => ∃ c, x.cps[i]? = some c, fun i H v H' => H' = H ∧ ∃ c, x.cps[i]? = some c ∧ v = .str ⟨#[c]⟩, fun i _ => x.cps[i]? = none⟩
theorem turn_str {P : Program} {w : World} {K : Frag} {tg : Expr} (x : Str) (t : Tok) (it : Addr) (b : Bool) :
    Turn P w K tg (Its x) [it] it (fun i h => h.IsStrIter it (if b then "str_ascii_iterator" else "str_iterator") x t i) where
  mem := by simp
  obj := fun i h st a ha => by
    have e : a = it := by simpa using ha
    subst e
    obtain ⟨o, e, c, d⟩ := st
    exact ⟨o, e, fun v z => by rw [d] at z; cases z⟩
  keep := fun i h h' ⟨o, e, r⟩ k => ⟨o, k it (by simp) o e, r⟩
  item := by
    intro X hP hw hK hc i pins s σ H E I hf st hg
    subst hP hw hK
    obtain ⟨c, hx⟩ := hg
    obtain ⟨f0, f1, f2, f3, f4, f5⟩ := hf it (by simp)
    have go : ∀ h', h'.IsStrIter it (if b then "str_ascii_iterator" else "str_iterator") x t (i + 1) → Heap.SameBut it s.heap h' →
        ∃ u, (some (Value.str ⟨#[c]⟩ s.toks)) = some u ∧ wpAny (model X.prog X.w) X.A (letOwnedTupleGo tg (.ref it) u) (fun _ s2 => ∃ v H', Inv X pins σ H' s2 ∧ RelV v u ∧ (Its x).yld i H v H' ∧ s2.heap.IsStrIter it (if b then "str_ascii_iterator" else "str_iterator") x t (i + 1) ∧ ∀ b ∈ [it], H' b = none) E { s with heap := h', toks := s.toks + 1 } := by
      intro h' st' sb
      have I1 : Inv X pins σ H { s with heap := h', toks := s.toks + 1 } := I.turned (t' := s.toks + 1) (fun b o hb e => (sb.2 b hb).trans e) f0 f1 f3 f4 f5
      obtain ⟨o, e, cc, d⟩ := id st'
      exact ⟨_, rfl, go_of (s := { s with heap := h', toks := s.toks + 1 }) e cc d (by cases b <;> decide) ⟨.str ⟨#[c]⟩, H, I1, ⟨_, rfl⟩, ⟨rfl, c, hx, rfl⟩, st', fun b hb => (hf b hb).1⟩⟩
    cases b with
    | true => exact wpAny_pyNext_ascii_item st hx go
    | false => exact wpAny_pyNext_wide_item st hx go
  done := by
    intro X hP hw hK hc i pins s σ H E I hf st hg
    subst hP hw hK
    obtain ⟨f0, f1, f2, f3, f4, f5⟩ := hf it (by simp)
    cases b with
    | true => exact wpAny_pyNext_ascii_end (I.ok.hd hc) st hg fun h' eb => ⟨rfl, I.turned (t' := s.toks) (fun b o hb e => eb b o hb e) f0 f1 f3 f4 f5⟩
    | false => exact wpAny_pyNext_wide_end (I.ok.hd hc) st hg fun h' eb => ⟨rfl, I.turned (t' := s.toks) (fun b o hb e => eb b o hb e) f0 f1 f3 f4 f5⟩
  self := fun _ _ _ _ _ st h => by
    cases b with
    | true => exact wpAny_pyIter_striter_ascii st h
    | false => exact wpAny_pyIter_striter_wide st h
def iStr (tl : TE) : TI := fun σ H R => tl σ H fun v H1 => ∃ x, v = .str x ∧ R (Its x) H1
section
variable {X : Cx}
theorem pi_str {tg l : Expr} {tl : TE} (hl : PE X l tl) : PI X tg l (iStr tl) := by
  intro pins s σ H R I h
  refine thn (hl pins s σ H _ I h) fun v s1 ⟨y, H1, I1, r1, x, ey, q⟩ => ?_
  subst ey
  obtain ⟨t, rfl⟩ := r1
  have fin : ∀ b : Bool, PIE X pins σ tg R (.ref s1.heap.objs.size) { s1 with heap := s1.heap.push { cls := .type (if b then "str_ascii_iterator" else "str_iterator"), data := .fields #[.str x t, .int 0 0] } } := by
    intro b
    refine ⟨s1.heap.objs.size, [s1.heap.objs.size], _, _, H1, rfl, I1.kept (t' := s1.toks) fun b o e => Heap.get?_push_of_some _ e, turn_str x t _ b, ⟨_, Heap.get?_push_size _ rfl, rfl, rfl⟩, fun b hb => ?_, q⟩
    have e : b = s1.heap.objs.size := by simpa using hb
    subst e
    exact I1.fpOk (Nat.le_refl _) (I1.hok.fresh (Nat.le_refl _))
  cases ha : x.cps.all (· < 128) with
  | true => exact wpAny_pyIter_ascii ha (fin true)
  | false => exact wpAny_pyIter_wide ha (fin false)
end
/-! ### methods of texts -/
def rPart : V → List V → Hp → VK → Prop := fun z vs H Q => ∃ x y, z = .str x ∧ vs = [.str y] ∧ (y.length == 0) = false ∧ x.length ≤ sizeLine ∧ ∀ p, H p = none → Q (.ref p) (upd H p (.tup [.str (Txt.partition x y).1, .str (Txt.partition x y).2.1, .str (Txt.partition x y).2.2]))
def rSplit : V → List V → Hp → VK → Prop := fun z vs H Q => ∃ x y, z = .str x ∧ vs = [.str y] ∧ (y.length == 0) = false ∧ x.length + 2 ≤ sizeLine ∧ ∀ p, H p = none → Q (.ref p) (upd H p (.lst ((Txt.split x y).map V.str)))
section
variable {X : Cx}
end
end L2
namespace L2
open PySem PySem.Spec PyProof.Rows PySem.W
section
variable {X : Cx}
/-! ### int(text), any and all of bools, text * number -/
/-! ### text * number, text[a:b] -/
/-! ### a list against the empty one -/
end
end L2

/-! texts of figures, and of amounts, as lists of codes -/
namespace TM
open PySem PySem.NumText
/-- the figures of a number -/
def dg (n : Nat) : List Nat := (Nat.toDigits 10 n).map Char.toNat
/-- figures without a nought ahead of others -/
structure Fig (cs : List Nat) : Prop where
  ne : cs ≠ []
  len : cs.length ≤ 60
  all : AllDigits cs
  no : cs.head? = some 48 → cs.length = 1
/-- the text L writes the amount t / b -/
def Reads (L : List Nat) (t b : Nat) : Prop :=
  (Fig L ∧ t = digitsVal L ∧ b = 1) ∨ ∃ p q, L = p ++ 47 :: q ∧ Fig p ∧ Fig q ∧ t = digitsVal p ∧ b = digitsVal q ∧ 2 ≤ b ∧ Nat.gcd t b = 1
def showL (t b : Nat) : List Nat := if b = 1 then dg t else dg t ++ 47 :: dg b
end TM
namespace TM
open PySem PySem.StrLaws PySem.Builtin PySem.Builtin.Str
abbrev cps (x : Str) : List Nat := x.cps.toList
abbrev sl : Str := ⟨#[47]⟩
theorem cps_append' (x y : Str) : cps (x ++ y) = cps x ++ cps y := by
  show (x.cps ++ y.cps).toList = _
  rw [Array.toList_append]
end TM

namespace L2
open PySem PySem.Spec PyProof.Rows PySem.W
def rCount : V → List V → Hp → VK → Prop := fun x vs H Q => ∃ l xs y, x = .ref l ∧ vs = [y] ∧ H l = some (.lst xs) ∧ flatV y = true ∧ xs.all flatV = true ∧ Q (.int ((xs.countP fun z => eqV z y : Nat) : Int)) H
def rIndex : V → List V → Hp → VK → Prop := fun x vs H Q => ∃ l xs y, ∃ j : Nat, ∃ z, x = .ref l ∧ vs = [y] ∧ H l = some (.lst xs) ∧ flatV y = true ∧ xs.all flatV = true ∧ xs[j]? = some z ∧ eqV z y = true ∧
  (∀ m z, m < j → xs[m]? = some z → eqV z y = false) ∧ Q (.int (j : Int)) H
section
variable {X : Cx}
end
def Nx (n i : Nat) (P : Prop) : Prop := ∃ m', m' < n - i ∧ m' = n - (i + 1) ∧ i + 1 ≤ n ∧ P
end L2

namespace L2
open PySem PySem.Spec PyProof.Rows
/-! ### an empty dict, of which it is only known that it is one -/
def dcE (a : Addr) : HO := .ext fun h => ∃ o, h.get? a = some o ∧ o.cls = .type "dict"
def tDict0 : TE := fun _ H Q => ∀ p, H p = none → Q (.ref p) (upd H p (dcE p))
section
variable {X : Cx} {pos : Pos}
/-- isinstance against a built-in type, a dict among the things that are asked -/
def IsiD (K : PySem.W.Frag) (H : Hp) (v : V) (T : String) (b : Bool) : Prop := Isi K H v T b ∨ ∃ a, v = .ref a ∧ H a = some (dcE a) ∧ T = "str" ∧ b = false
end
end L2

namespace L2
open PySem PySem.Spec PyProof.Rows
/-! ### == and != of lists -/
def rEqL (K : PySem.W.Frag) : R2 := fun x y H Q => ∃ a b xs ys, ∃ e : Nat → Bool, x = .ref a ∧ y = .ref b ∧ SqL K H a xs ∧ SqL K H b ys ∧ (∀ (j : Nat) x y, xs[j]? = some x → ys[j]? = some y → DEq K H 40 x y (e j)) ∧
  Q (.bl ((List.range (min xs.length ys.length)).all e && xs.length == ys.length)) H
def rNeL (K : PySem.W.Frag) : R2 := fun x y H Q => ∃ a b xs ys, ∃ e : Nat → Bool, x = .ref a ∧ y = .ref b ∧ SqL K H a xs ∧ SqL K H b ys ∧ (∀ (j : Nat) x y, xs[j]? = some x → ys[j]? = some y → DEq K H 40 x y (e j)) ∧
  Q (.bl (!((List.range (min xs.length ys.length)).all e && xs.length == ys.length))) H
section
variable {X : Cx}
theorem nels_at {pins : List (Addr × Obj)} {σ : St} {H : Hp} {s : Shared} (I : Inv X pins σ H s) {A : Around} {a b : Addr} {xs ys : List V} {e : Nat → Bool} (hx : SqL X.K H a xs) (hy : SqL X.K H b ys) (hu : A.units < cLine)
    (hd : ∀ (j : Nat) x y u v, xs[j]? = some x → ys[j]? = some y → RelV x u → RelV y v → SeqAt.EqAt A.in1 s u v (e j)) :
    SeqAt.RcNeAt A s (.ref a) (.ref b) (!((List.range (min xs.length ys.length)).all e && xs.length == ys.length)) := by
  obtain ⟨its, r, tx, _⟩ := I.list hx
  obtain ⟨its', r', ty, _⟩ := I.list hy
  have l1 := r.length
  have l2 := r'.length
  by_cases hl : xs.length = ys.length
  · have q := SeqAt.RcNeAt.lists (A := A) (e := e) (isList_of tx) (isList_of ty) (by rw [List.size_toArray, List.size_toArray]; omega) hu (fun j h1 h2 => ?_)
    · rw [List.size_toArray, ← l1] at q
      have e1 : ((List.range (min xs.length ys.length)).all e && xs.length == ys.length) = (List.range xs.length).all e := by
        rw [← hl, Nat.min_self, beq_self_eq_true, Bool.and_true]
      rw [e1]
      exact q
    · rw [List.size_toArray] at h1 h2
      obtain ⟨x, hxj⟩ : ∃ x, xs[j]? = some x := ⟨_, List.getElem?_eq_getElem (by omega)⟩
      obtain ⟨y, hyj⟩ : ∃ y, ys[j]? = some y := ⟨_, List.getElem?_eq_getElem (by omega)⟩
      obtain ⟨u1, hu1, ru1⟩ := r.get hxj
      obtain ⟨u2, hu2, ru2⟩ := r'.get hyj
      have e1 : its.toArray[j] = u1 := by
        have := (List.getElem?_eq_some_iff.mp hu1).2
        simpa using this
      have e2 : its'.toArray[j] = u2 := by
        have := (List.getElem?_eq_some_iff.mp hu2).2
        simpa using this
      rw [e1, e2]
      exact hd j x y u1 u2 hxj hyj ru1 ru2
  · have q := SeqAt.RcNeAt.lists_lengths (A := A) (isList_of tx) (isList_of ty) (by rw [List.size_toArray, List.size_toArray, ← l1, ← l2, bne_iff_ne]; exact hl) hu
    have e1 : ((List.range (min xs.length ys.length)).all e && xs.length == ys.length) = false := by
      rw [beq_eq_false_iff_ne.mpr hl, Bool.and_false]
    rw [e1]
    exact q
theorem op_neL (hu : X.A.units + 64 < cLine) : OpR X (compareOp .NotEq) (rNeL X.K) := by
  intro pins s σ H x y v u Q I rx ry h
  obtain ⟨a, b, xs, ys, e, rfl, rfl, hx, hy, hd, q⟩ := h
  cases rx; cases ry
  exact nels_at I hx hy (by omega) (fun j x y u v h1 h2 r1 r2 => (hd j x y h1 h2).at I (by show X.A.units + 1 + 40 < cLine; omega) r1 r2) X.prog X.w X.xe _ ⟨.bl _, H, I, rfl, q⟩
end
/-- a value that equals itself at sight -/
def Sf (v : V) : Prop := flatV v = true ∨ ∃ a, v = .ref a
theorem eqV_self {v : V} (h : flatV v = true) : eqV v v = true := by
  cases v <;> simp_all [flatV, eqV]
theorem DEq.self {K : PySem.W.Frag} {H : Hp} {n : Nat} {v : V} (h : Sf v) : DEq K H n v v true := by
  rcases h with h | ⟨a, rfl⟩
  · have := DEq.flat (K := K) (H := H) (n := n) h h
    rwa [eqV_self h] at this
  · exact .same
theorem all_true (n : Nat) (m : Nat) (h : n = m) : ((List.range (min n m)).all (fun _ => true) && n == m) = true := by
  subst h
  rw [beq_self_eq_true, Bool.and_true, List.all_eq_true]
  exact fun _ _ => rfl
/-- two lists of the same things -/
def rNeLs (K : PySem.W.Frag) : R2 := fun x y H Q => ∃ a b xs, x = .ref a ∧ y = .ref b ∧ SqL K H a xs ∧ SqL K H b xs ∧ (∀ v ∈ xs, Sf v) ∧ Q (.bl false) H
end L2

namespace L2
open PySem PySem.Spec PyProof.Rows
/-! ### the tuples stay -/
def Tk (H H' : Hp) : Prop := ∀ b ys, H b = some (.tup ys) → H' b = some (.tup ys)
theorem Same.tk {H H' : Hp} (s : Same H H') : Tk H H' := fun b ys e => s b _ e
theorem Tk.lst {H : Hp} {l : Addr} {xs : List V} {o : HO} (h : H l = some (.lst xs)) : Tk H (upd H l o) := fun b ys e => by
  have ne : b ≠ l := fun z => by rw [z, h] at e; cases e
  rw [upd_ne ne]
  exact e
theorem sz1000 {n : Nat} (h : n ≤ 1000) : n ≤ sizeLine := Nat.le_trans h (by decide)
/-! ### displays of many elements -/
def starFree : Expr → Bool
  | .Starred .. => false
  | _ => true
end L2

namespace L2
open PySem PySem.Spec PyProof.Rows
/-! ### what a value tells: flat things, and tuples of such, at any depth -/
inductive Dt where
  | i (n : Int)
  | s (x : Str)
  | b (k : Bool)
  | n
  | t (l : List Dt)
/-- a tuple that nothing changes: one of the heap, or of the module -/
def SqZ (K : PySem.W.Frag) (H : Hp) (a : Addr) (xs : List V) : Prop := H a = some (.tup xs) ∨ ∃ (o : Obj) (its : Array Value) (n : Nat), K.lookup a = some o ∧ o.cls = .type "tuple" ∧ o.data = .seq its n ∧ its.size ≤ sizeLine ∧ Vals xs its.toList
inductive Dv (K : PySem.W.Frag) (H : Hp) : Nat → V → Dt → Prop where
  | i {n m} : Dv K H n (.int m) (.i m)
  | s {n x} : Dv K H n (.str x) (.s x)
  | b {n k} : Dv K H n (.bl k) (.b k)
  | n {n} : Dv K H n .non .n
  | t {n a xs ds} : SqZ K H a xs → xs.length = ds.length → (∀ (j : Nat) x d, xs[j]? = some x → ds[j]? = some d → Dv K H n x d) → Dv K H (n + 1) (.ref a) (.t ds)
/-- lists of such things -/
def DL (K : PySem.W.Frag) (H : Hp) (n : Nat) (xs : List V) (ds : List Dt) : Prop := xs.length = ds.length ∧ ∀ (j : Nat) x d, xs[j]? = some x → ds[j]? = some d → Dv K H n x d
/-- the same list of things, told twice -/
def rEqDL (K : PySem.W.Frag) : R2 := fun x y H Q => ∃ a b xs ys ds, x = .ref a ∧ y = .ref b ∧ SqL K H a xs ∧ SqL K H b ys ∧ DL K H 40 xs ds ∧ DL K H 40 ys ds ∧ Q (.bl true) H
def rNeDL (K : PySem.W.Frag) : R2 := fun x y H Q => ∃ a b xs ys ds, x = .ref a ∧ y = .ref b ∧ SqL K H a xs ∧ SqL K H b ys ∧ DL K H 40 xs ds ∧ DL K H 40 ys ds ∧ Q (.bl false) H
def rEqDT (K : PySem.W.Frag) : R2 := fun x y H Q => ∃ a b xs ys ds, x = .ref a ∧ y = .ref b ∧ SqT K H a xs ∧ SqT K H b ys ∧ DL K H 40 xs ds ∧ DL K H 40 ys ds ∧ Q (.bl true) H
def rNeDT (K : PySem.W.Frag) : R2 := fun x y H Q => ∃ a b xs ys ds, x = .ref a ∧ y = .ref b ∧ SqT K H a xs ∧ SqT K H b ys ∧ DL K H 40 xs ds ∧ DL K H 40 ys ds ∧ Q (.bl false) H
section
variable {X : Cx}
end
end L2

namespace L2
open PySem PySem.Spec PyProof.Rows
/-! ### a comprehension that takes names over -/
theorem closure_go {env : Env} : ∀ (names : List (Str × NameKind)) (acc : List (Str × Addr)), (∀ y ∈ names, y.2 = NameKind.free → ∃ c, env.cells.lookup y.1 = some c) → (∀ x c, acc.lookup x = some c → env.cells.lookup x = some c) →
    ∃ cl, (forIn (m := Sem) names acc (fun x r => do if (x.2 == NameKind.free) = true then do let c ← cellOf env x.1; pure (ForInStep.yield ((x.1, c) :: r)) else pure (ForInStep.yield r))) = pure cl ∧
      (∀ x c, cl.lookup x = some c → env.cells.lookup x = some c) ∧ (∀ y ∈ names, y.2 = NameKind.free → ∃ c, cl.lookup y.1 = some c) ∧ ∀ x, (∃ c, acc.lookup x = some c) → ∃ c, cl.lookup x = some c
  | [], acc, _, h2 => ⟨acc, rfl, h2, (fun y hy => by simp at hy), fun _ h => h⟩
  | y :: r, acc, h1, h2 => by
    by_cases e : y.2 = NameKind.free
    · obtain ⟨c, hc⟩ := h1 y List.mem_cons_self e
      obtain ⟨cl, e1, e2, e3, e4⟩ := closure_go r ((y.1, c) :: acc) (fun z hz => h1 z (List.mem_cons_of_mem _ hz)) (fun x d hx => by
        rw [List.lookup_cons] at hx
        split at hx
        · rename_i hb
          have : x = y.1 := eq_of_beq hb
          rw [this, hc]
          exact hx
        · exact h2 x d hx)
      refine ⟨cl, ?_, e2, fun z hz ez => ?_, fun x hx => e4 x ?_⟩
      · rw [List.forIn_cons, if_pos (by rw [e]; rfl)]
        unfold cellOf
        rw [hc]
        simp only [pure_bind]
        exact e1
      · rcases List.mem_cons.mp hz with rfl | hz
        · exact e4 z.1 ⟨c, by rw [List.lookup_cons, beq_self_eq_true]⟩
        · exact e3 z hz ez
      · obtain ⟨d, hd⟩ := hx
        rw [List.lookup_cons]
        split
        · exact ⟨c, rfl⟩
        · exact ⟨d, hd⟩
    · obtain ⟨cl, e1, e2, e3, e4⟩ := closure_go r acc (fun z hz => h1 z (List.mem_cons_of_mem _ hz)) h2
      refine ⟨cl, ?_, e2, fun z hz ez => ?_, e4⟩
      · rw [List.forIn_cons, if_neg (by intro z; exact e (eq_of_beq z))]
        simp only [pure_bind]
        exact e1
      · rcases List.mem_cons.mp hz with rfl | hz
        · exact absurd ez e
        · exact e3 z hz ez
theorem closure_ok {scope : Scope} {env : Env} (h : ∀ y ∈ scope.names, y.2 = NameKind.free → ∃ c, env.cells.lookup y.1 = some c) :
    ∃ cl, closureFor scope env = pure cl ∧ (∀ x c, cl.lookup x = some c → env.cells.lookup x = some c) ∧ ∀ y ∈ scope.names, y.2 = NameKind.free → ∃ c, cl.lookup y.1 = some c := by
  obtain ⟨cl, e1, e2, e3, _⟩ := closure_go (env := env) scope.names [] h (fun x c e => by simp at e)
  refine ⟨cl, ?_, e2, e3⟩
  simp only [closureFor]
  rw [show (forIn (m := Sem) scope.names [] fun x r => if (x.2 == NameKind.free) = true then (do let c ← cellOf env x.1; pure (ForInStep.yield ((x.1, c) :: r))) else pure (ForInStep.yield r)) = pure cl from e1]
  rfl
theorem relabel_from {scope : Scope} {env : Env} {x : Str} (hc : ∀ y ∈ scope.names, y.2 ≠ NameKind.cell) (h : (relabel scope env).names.lookup x = some .cell ∨ (relabel scope env).names.lookup x = some .free) : ∃ y ∈ scope.names, y.1 = x ∧ y.2 = NameKind.free := by
  have e' : ∃ k, (k = NameKind.cell ∨ k = NameKind.free) ∧ (relabel scope env).names.lookup x = some k := by
    rcases h with e | e
    · exact ⟨_, .inl rfl, e⟩
    · exact ⟨_, .inr rfl, e⟩
  obtain ⟨k, hk, e⟩ := e'
  have hm := PySem.mem_of_lookup e
  obtain ⟨y, hy, hy2⟩ := List.mem_map.mp hm
  obtain ⟨n, kk⟩ := y
  have hn := hc _ hy
  simp only at hy2 hn
  split at hy2
  · rename_i hf
    injection hy2 with a1 a2
    subst a1
    simp only [Bool.and_eq_true] at hf
    exact ⟨(n, kk), hy, rfl, eq_of_beq hf.1.1⟩
  · injection hy2 with a1 a2
    subst a1 a2
    rcases hk with rfl | rfl
    · exact absurd rfl hn
    · exact ⟨_, hy, rfl, rfl⟩
theorem clOk_of {X : Cx} (ok : X.Ok) {scope : Scope} (hc : ∀ y ∈ scope.names, y.2 ≠ NameKind.cell) (h : ∀ y ∈ scope.names, y.2 = NameKind.free → X.env.kindOf y.1 = some .cell ∨ X.env.kindOf y.1 = some .free) : ∃ cl, ClOk X scope cl := by
  obtain ⟨cl, e1, e2, e3⟩ := closure_ok (scope := scope) (env := X.env) fun y hy ey => ok.has y.1 (h y hy ey)
  refine ⟨cl, e1, e2, fun x hx => ?_⟩
  obtain ⟨y, hy, rfl, ey⟩ := relabel_from hc hx
  exact e3 y hy ey
theorem pe_compC {X : Cx} {elt tg iter : Expr} {ifs : List Expr} {scope : Scope} {pos : Pos} {N' : List Str} {wi : TI} {g : TG} {tt : TT} {te : TE} (σf : St → St)
    (hc : X.calm = true) (hkind : scope.kind = .function) (hcell : ∀ y ∈ scope.names, y.2 ≠ .cell) (hnames : ∀ y ∈ scope.names, y.2 = .local → scope.names.lookup y.1 = some .local)
    (hk : ∀ y ∈ scope.names, y.2 = NameKind.free → X.env.kindOf y.1 = some .cell ∨ X.env.kindOf y.1 = some .free)
    (hN : ∀ cl (σ : St), σ.length = X.N.length → BlkN X N' scope cl σ (σf σ)) (hi : PI X tg iter wi)
    (hg : ∀ cl C s₀ H₀ ex pn, PG (blk X N' scope cl C s₀ H₀ ex pn) tg g) (ht : ∀ cl C s₀ H₀ ex pn, PIfs (blk X N' scope cl C s₀ H₀ ex pn) ifs tt) (he : ∀ cl C s₀ H₀ ex pn, PE (blk X N' scope cl C s₀ H₀ ex pn) elt te)
    (hs : ∀ x, foldedSetIterable iter X.env x = pure x := by intro _; rfl) : PE X (.ListComp elt [⟨tg, iter, ifs, 0⟩] scope pos) (tComp σf wi g tt te) := by
  intro pins s σ H Q I h
  obtain ⟨cl, hcl⟩ := clOk_of I.ok hcell hk
  exact pe_comp σf hc hkind hcell hnames hcl (hN cl) hi (hg cl) (ht cl) (he cl) hs pins s σ H Q I h
/-- the names that are taken over: free in the block, cells of the frame -/
theorem hk_of {X : Cx} {scope sc : Scope} (hs : X.env.scope = sc) (h : (scope.names.all fun y => y.2 != NameKind.free || sc.names.lookup y.1 == some NameKind.cell || sc.names.lookup y.1 == some NameKind.free) = true) :
    ∀ y ∈ scope.names, y.2 = NameKind.free → X.env.kindOf y.1 = some .cell ∨ X.env.kindOf y.1 = some .free := fun y hy ey => by
  have q := List.all_eq_true.mp h y hy
  unfold Env.kindOf
  rw [hs]
  rw [ey] at q
  simp only [bne_self_eq_false, Bool.false_or, Bool.or_eq_true] at q
  rcases q with q | q
  · exact .inl (eq_of_beq q)
  · exact .inr (eq_of_beq q)
theorem lookup_relabel_free {env : Env} {x : Str} (hk : env.scope.kind = .function) (hx : env.kindOf x = some .cell) : ∀ {names : List (Str × NameKind)}, names.lookup x = some .free →
    (names.map fun (n, k) => if (k == NameKind.free && env.scope.kind == .function && env.kindOf n == some .cell) then (n, NameKind.cell) else (n, k)).lookup x = some .cell
  | [], h => by simp at h
  | (n, k) :: r, h => by
    rw [List.map_cons]
    rw [List.lookup_cons] at h
    by_cases e : (x == n) = true
    · rw [e] at h
      have e' : x = n := eq_of_beq e
      subst e'
      have hf : k = NameKind.free := Option.some.inj h
      subst hf
      have c : (NameKind.free == NameKind.free && env.scope.kind == .function && env.kindOf x == some .cell) = true := by rw [hk, hx]; rfl
      rw [show (match ((x, NameKind.free) : Str × NameKind) with | (n, k) => if (k == NameKind.free && env.scope.kind == .function && env.kindOf n == some .cell) = true then (n, NameKind.cell) else (n, k)) = (x, NameKind.cell) from if_pos c]
      rw [List.lookup_cons, beq_self_eq_true]
    · have e0 : (x == n) = false := by simpa using e
      rw [e0] at h
      have ih := lookup_relabel_free hk hx h
      have en : ∀ q : Str × NameKind, q.1 = n → (q :: (r.map fun (n, k) => if (k == NameKind.free && env.scope.kind == .function && env.kindOf n == some .cell) then (n, NameKind.cell) else (n, k))).lookup x = some .cell := fun q hq => by
        obtain ⟨q1, q2⟩ := q
        simp only at hq
        subst hq
        rw [List.lookup_cons, e0]
        exact ih
      refine en _ ?_
      show (if _ then (n, NameKind.cell) else (n, k)).1 = n
      split <;> rfl
theorem blkN_by {X : Cx} {N' N : List Str} {scope sc : Scope} {cl : List (Str × Addr)} {σ : St} (ts : List (Option Nat)) (hN : X.N = N) (hsc : X.env.scope = sc) (hl : ts.length = N'.length) (hk : sc.kind = .function)
    (h : ((ts.zip N').all fun p => match p.1 with | none => true | some j => N[j]? == some p.2 && sc.names.lookup p.2 == some NameKind.cell && scope.names.lookup p.2 == some NameKind.free) = true) :
    BlkN X N' scope cl σ (ts.map fun t => t.bind fun j => (σ[j]?).join) := by
  refine ⟨by rw [List.length_map, hl], fun i x v h1 h2 => ?_⟩
  rw [List.getElem?_map] at h2
  cases ht : ts[i]? with
  | none => rw [ht] at h2; cases h2
  | some t =>
    rw [ht] at h2
    have h2' : (t.bind fun j => (σ[j]?).join) = some v := Option.some.inj h2
    cases t with
    | none => cases h2'
    | some j =>
      have hm : (some j, x) ∈ ts.zip N' := List.mem_of_getElem? (by rw [List.getElem?_zip_eq_some]; exact ⟨ht, h1⟩ : (ts.zip N')[i]? = some (some j, x))
      have q := List.all_eq_true.mp h _ hm
      simp only [Bool.and_eq_true] at q
      obtain ⟨⟨q1, q2⟩, q3⟩ := q
      have q1' := eq_of_beq q1
      have q2' := eq_of_beq q2
      have q3' := eq_of_beq q3
      have kd : X.env.kindOf x = some .cell := by
        unfold Env.kindOf
        rw [hsc]
        exact q2'
      refine ⟨j, by rw [hN]; exact q1', ?_, by rw [hsc]; exact .inr (.inl q2'), (by rw [kd]; decide), .inl (lookup_relabel_free (by rw [hsc]; exact hk) kd q3')⟩
      have h3 : (σ[j]?).join = some v := h2'
      cases hj : σ[j]? with
      | none => rw [hj] at h3; cases h3
      | some o => rw [hj] at h3; cases o with
        | none => cases h3
        | some u => cases h3; rfl
end L2

namespace L2
open PySem PySem.Spec PyProof.Rows
/-! ### name = [ .. for .. ]: the name is stored ahead of the block's end -/
theorem ps_comp {X : Cx} {iy : Nat} {y : Str} {py spos : Pos} {elt tg iter : Expr} {ifs : List Expr} {scope : Scope} {pos : Pos} {N' : List Str} {cl : List (Str × Addr)} {wi : TI} {g : TG} {tt : TT} {te : TE} (σf : St → St)
    (hc : X.calm = true) (hkind : scope.kind = .function) (hcell : ∀ y ∈ scope.names, y.2 ≠ .cell) (hnames : ∀ y ∈ scope.names, y.2 = .local → scope.names.lookup y.1 = some .local) (hcl : ClOk X scope cl)
    (hN : ∀ σ : St, σ.length = X.N.length → BlkN X N' scope cl σ (σf σ)) (hi : PI X tg iter wi)
    (hg : ∀ C s₀ H₀ ex pn, PG (blk X N' scope cl C s₀ H₀ ex pn) tg g) (ht : ∀ C s₀ H₀ ex pn, PIfs (blk X N' scope cl C s₀ H₀ ex pn) ifs tt) (he : ∀ C s₀ H₀ ex pn, PE (blk X N' scope cl C s₀ H₀ ex pn) elt te)
    (hnd : X.N.Nodup) (hiy : X.N[iy]? = some y) (hy : Loc X.env.scope y) (hfy : X.fn y = true ∨ X.env.scope.names.lookup y = some .local)
    (hsw : swapsWith (.ListComp elt [⟨tg, iter, ifs, 0⟩] scope pos) (some (.Name y py)) spos.line X.env = pure true)
    (hs : ∀ x, foldedSetIterable iter X.env x = pure x := by intro _; rfl) : PS X (.Assign [.Name y py] (.ListComp elt [⟨tg, iter, ifs, 0⟩] scope pos) spos) (tAsg (tComp σf wi g tt te) (gName iy)) := by
  intro pins s σ H Dn I h
  rw [exec_Assign_Name_used _ _ _ _ hsw]
  refine wpAny_bind (wpAny_standAt (wpAny_bind ?_))
  show wpAny _ X.A (do let _ ← comprehension (.ListComp elt [⟨tg, iter, ifs, 0⟩] scope pos) scope X.env _ (newList []) false (eval iter X.env) (some (assign (.Name y py) X.env))) _ _ s
  refine wpAny_bind (wpAny_mono (wpAny_comprehension_free (use := some (assign (.Name y py) X.env)) (Q := fun _ s' => SP X pins Dn .next s') rfl hs hcl.run hkind hnames
    (thn (hi pins s σ H _ I h) fun v s1 h1 => thn h1 fun itv s2 h2 => ?_)) (fun _ s' hq => wpAny_pure (wpAny_pure hq)) fun _ _ e => e)
  obtain ⟨it, fp, tn, J, H2, rfl, I2, T, st2, f2, q⟩ := h2
  refine wpAny_newObj_type (wpAny_newFunctionEnv hcell (by intro y hy; simp at hy) (fun h₁ hns₁ hsb₁ => ?_) hkind)
  dsimp only at hns₁ hsb₁ ⊢
  have hfo : ∀ b ∈ fp, b < s2.heap.objs.size := fun b hb => by
    obtain ⟨o, e, _⟩ := T.obj _ _ st2 b hb
    exact Heap.lt_size e
  have hDf : H2 s2.heap.objs.size = none := I2.hok.fresh (Nat.le_refl _)
  obtain ⟨W, ⟨m0, w0⟩, turn⟩ := q s2.heap.objs.size hDf
  have I3 : Inv X pins σ (upd H2 s2.heap.objs.size (.lst [])) { s2 with heap := s2.heap.push { cls := .type "list", data := .seq ([] : List Value).toArray } } := I2.lnew (its := []) (t' := s2.toks) .nil (Nat.zero_le _)
  have f3 : ∀ b ∈ fp, FpOk X pins (upd H2 s2.heap.objs.size (.lst [])) b := fun b hb => ⟨by rw [upd_ne (Nat.ne_of_lt (hfo b hb))]; exact (f2 b hb).1, (f2 b hb).2⟩
  generalize hD : s2.heap.objs.size = D at *
  generalize hs3 : ({ s2 with heap := s2.heap.push { cls := .type "list", data := .seq ([] : List Value).toArray } } : Shared) = s3 at *
  have hh3 : s3.heap = s2.heap.push { cls := .type "list", data := .seq ([] : List Value).toArray } := by rw [← hs3]
  have hsz3 : s2.heap.objs.size < s3.heap.objs.size := by rw [hh3, Heap.size_push]; exact Nat.lt_succ_self _
  have e3 : ∀ h t, ({ s2 with heap := h, toks := t } : Shared) = { s3 with heap := h, toks := t } := fun h t => by rw [← hs3]
  rw [← hh3] at hns₁ hsb₁ ⊢
  have hk3 : ∀ b o, s3.heap.get? b = some o → h₁.get? b = some o := fun b o e => hsb₁.extBut b o (Nat.ne_of_lt (Heap.lt_size e)) (Heap.get?_push_of_some _ e)
  have I4 := blk_start (t' := s3.toks) I3 hkind hcl (hN σ I.len) f3 (fun b hb => Nat.lt_trans (hfo b hb) (hD ▸ hsz3)) (hns := by simpa using hns₁) hk3
  generalize hB : blk X N' scope cl s3.heap.objs.size s3 (upd H2 D (.lst [])) fp (X.pn ++ pins) = B at *
  have hBp : B.prog = X.prog := by rw [← hB]; rfl
  have hBw : B.w = X.w := by rw [← hB]; rfl
  have hBK : B.K = X.K := by rw [← hB]; rfl
  have hBA : B.A = X.A := by rw [← hB]; rfl
  have hBc : B.calm = true := by rw [← hB]; exact hc
  have hBe : B.env = compEnvC scope cl s3.heap.objs.size X.env := by rw [← hB]; rfl
  have hBx : B.xe = fun _ _ => False := by rw [← hB]; rfl
  have hGB : PG B tg g := hB ▸ hg _ _ _ _ _
  have hTB : PIfs B ifs tt := hB ▸ ht _ _ _ _ _
  have hEB : PE B elt te := hB ▸ he _ _ _ _ _
  have stat : ∀ {H' : Hp}, (∀ b ∈ fp, H' b = none) → ∀ b ∈ fp, FpOk B [] H' b := fun {H'} hn b hb => by
    obtain ⟨f0, f1, f2', f3', f4, f5⟩ := f3 b hb
    rw [← hB]
    refine ⟨hn b hb, Nat.ne_of_lt (Nat.lt_trans (hfo b hb) (hD ▸ hsz3)), fun z => ?_, .inl hb, fun x c e => f4 x c (hcl.sub x c e), fun p hp => ?_⟩
    · rcases List.mem_cons.mp (I.stkSub b z) with z | z
      · exact f1 z
      · exact f2' z
    · rw [show (blk X N' scope cl s3.heap.objs.size s3 (upd H2 D (.lst [])) fp (X.pn ++ pins)).pn = X.pn ++ pins from rfl, List.append_nil] at hp
      exact f5 p hp
  have loop : ∀ s4 : Shared, Inv B [] (σf σ) (upd H2 D (.lst [])) s4 → tn 0 s4.heap →
      codeAny (model X.prog X.w) X.A (.compLoop (.ListComp elt [⟨tg, iter, ifs, 0⟩] scope pos) 0 (.ref it) (.ref D) (compEnvC scope cl s3.heap.objs.size X.env)) (compPost (model X.prog X.w) X.A X.xe (some (assign (.Name y py) X.env)) (fun _ s' => SP X pins Dn .next s') (.ref D) s3.heap.objs.size) s4 := by
    intro s4 I4 st4
    refine compLoop_gen (I := fun n s' => ∃ i ys H', Inv B [] (σf σ) H' s' ∧ tn i s'.heap ∧ (∀ b ∈ fp, H' b = none) ∧ W i n ys H') ?_ m0 ⟨0, [], _, I4, st4, fun b hb => (f3 b hb).1, w0⟩
    rintro n s5 ⟨i, ys, H5, I5, st5, fr5, w5⟩
    obtain ⟨hD5, hlen5, alt⟩ := turn i n ys H5 w5
    rcases alt with ⟨stop, qn⟩ | ⟨go, step⟩
    · have z := T.done B hBp hBw hBK hBc i [] s5 (σf σ) H5 (fun _ _ => False) I5 (stat fr5) st5 stop
      rw [hBA] at z
      refine thn z fun r s6 ⟨hr, I6⟩ => ?_
      subst hr
      obtain ⟨m6, hn6, _⟩ := I6.loc
      rw [hBe] at hn6
      subst hB
      have I6x : Inv X pins σ H5 s6 := blk_end I3 f3 I6 (h'' := s6.heap) ⟨rfl, fun _ _ => rfl⟩
      have fC : FpOk X pins H5 s3.heap.objs.size := I3.fpOk (Nat.le_refl _) I6.free
      obtain ⟨g0, g1, g2, g3, g4, g5⟩ := id fC
      obtain ⟨oC, es, ep, hoC, hdC, rest⟩ := hn6
      have I6p := I6x.pinned (fp := [s3.heap.objs.size]) (fun b hb => by rw [List.mem_singleton.mp hb]; exact fC) (fun b hb => ⟨oC, by rw [List.mem_singleton.mp hb]; exact hoC, fun v e => by rw [hdC] at e; cases e⟩)
      show wpAny (model X.prog X.w) X.A (assign (.Name y py) X.env (.ref D)) _ X.xe s6
      refine thn (pg_name (i := iy) (pos := py) hnd hiy hy hfy _ s6 σ H5 (.ref D) (.ref D) (fun σ' H' => Dn.nx σ' H') I6p rfl qn) fun _ s7 ⟨σ7, H7, I7, q7⟩ => ?_
      have pc := I7.pin (s3.heap.objs.size, oC) (List.mem_append_right _ (List.mem_append_right _ (mem_pinsAt (by simp) hoC)))
      refine ⟨m6, ⟨oC, es, ep, pc.1, hdC, rest⟩, fun h' hs' => ⟨σ7, H7, ?_, q7⟩⟩
      exact I7.unpinned.turned (t' := s7.toks) (fun b o hb e => hs'.extBut b o hb e) pc.2.1 g1 g3 g4 g5
    · have z := T.item B hBp hBw hBK hBc i [] s5 (σf σ) H5 (fun _ _ => False) I5 (stat fr5) st5 go
      rw [hBA] at z
      refine thn z fun r s6 ⟨u, hr, h6⟩ => ?_
      subst hr
      refine thn h6 fun _ s7 ⟨x, H7, I7, r7, y7, st7, fr7⟩ => ?_
      have I7' := I7.pinned (stat fr7) (T.obj _ _ st7)
      have z8 := hGB _ s7 (σf σ) H7 x u _ I7' r7 (step x H7 y7)
      rw [hBp, hBw, hBA, hBe, hBx] at z8
      refine thn z8 fun _ s8 ⟨σ8, H8, I8, k8, q8⟩ => ?_
      have z9 := hTB _ s8 σ8 H8 _ I8 q8
      rw [hBp, hBw, hBA, hBe, hBx] at z9
      refine thn z9 fun ok s9 ⟨H9, I9, q9⟩ => ?_
      have again : ∀ {ys' : List V} {H' : Hp} {s' : Shared}, Inv B ([] ++ pinsAt fp s7.heap) σ8 H' s' → (∃ m', m' < n ∧ W (i + 1) m' ys' H') → ∃ m, m < n ∧ ∃ i ys H', Inv B [] (σf σ) H' s' ∧ tn i s'.heap ∧ (∀ b ∈ fp, H' b = none) ∧ W i m ys H' := fun {ys' H' s'} J ⟨m', hm, w'⟩ => by
        refine ⟨m', hm, i + 1, ys', H', J.unpinned.weak k8.len.symm k8.at', T.keep _ _ _ st7 fun b hb o e => (J.pin (b, o) (List.mem_append_right _ (List.mem_append_right _ (mem_pinsAt hb e)))).1, fun b hb => ?_, w'⟩
        obtain ⟨o, e, d⟩ := T.obj _ _ st7 b hb
        exact (J.pin (b, o) (List.mem_append_right _ (List.mem_append_right _ (mem_pinsAt hb e)))).2.1
      cases ok with
      | false => exact again I9 q9
      | true =>
        have z10 := hEB _ s9 σ8 H9 _ I9 q9
        rw [hBp, hBw, hBA, hBe, hBx] at z10
        refine thn z10 fun y10 s10 ⟨y, H10, I10, r10, hD10, q10⟩ => ?_
        have z11 := mt_append (X := B) _ s10 σ8 H10 (.ref D) [y] (.ref D) [y10] (fun _ H' => ∃ m', m' < n ∧ W (i + 1) m' (ys ++ [y]) H') I10 rfl (.cons r10 .nil) ⟨D, ys, y, rfl, rfl, hD10, hlen5, q10⟩
        rw [hBp, hBw, hBA, hBx] at z11
        refine thn z11 fun _ s11 ⟨_, H11, I11, _, q11⟩ => again I11 q11
  have st4 : tn 0 ({ s3 with heap := h₁, toks := s3.toks } : Shared).heap := T.keep _ _ _ st2 fun b hb o e => hk3 b o (by rw [hh3]; exact Heap.get?_push_of_some _ e)
  have L4 := loop _ I4 st4
  subst hs3
  exact codeAny_compStart_list L4 (T.self _ 0 _ _ _ st4 L4)
theorem ps_compC {X : Cx} {iy : Nat} {y : Str} {py spos : Pos} {elt tg iter : Expr} {ifs : List Expr} {scope : Scope} {pos : Pos} {N' : List Str} {wi : TI} {g : TG} {tt : TT} {te : TE} (σf : St → St)
    (hc : X.calm = true) (hkind : scope.kind = .function) (hcell : ∀ y ∈ scope.names, y.2 ≠ .cell) (hnames : ∀ y ∈ scope.names, y.2 = .local → scope.names.lookup y.1 = some .local)
    (hk : ∀ y ∈ scope.names, y.2 = NameKind.free → X.env.kindOf y.1 = some .cell ∨ X.env.kindOf y.1 = some .free)
    (hN : ∀ cl (σ : St), σ.length = X.N.length → BlkN X N' scope cl σ (σf σ)) (hi : PI X tg iter wi)
    (hg : ∀ cl C s₀ H₀ ex pn, PG (blk X N' scope cl C s₀ H₀ ex pn) tg g) (ht : ∀ cl C s₀ H₀ ex pn, PIfs (blk X N' scope cl C s₀ H₀ ex pn) ifs tt) (he : ∀ cl C s₀ H₀ ex pn, PE (blk X N' scope cl C s₀ H₀ ex pn) elt te)
    (hnd : X.N.Nodup) (hiy : X.N[iy]? = some y) (hy : Loc X.env.scope y) (hfy : X.fn y = true ∨ X.env.scope.names.lookup y = some .local)
    (hsw : swapsWith (.ListComp elt [⟨tg, iter, ifs, 0⟩] scope pos) (some (.Name y py)) spos.line X.env = pure true)
    (hs : ∀ x, foldedSetIterable iter X.env x = pure x := by intro _; rfl) : PS X (.Assign [.Name y py] (.ListComp elt [⟨tg, iter, ifs, 0⟩] scope pos) spos) (tAsg (tComp σf wi g tt te) (gName iy)) := by
  intro pins s σ H D I h
  obtain ⟨cl, hcl⟩ := clOk_of I.ok hcell hk
  exact ps_comp σf hc hkind hcell hnames hcl (hN cl) hi (hg cl) (ht cl) (he cl) hnd hiy hy hfy hsw hs pins s σ H D I h
end L2

namespace L2
open PySem PySem.Spec PyProof.Rows
/-! ### comprehensions, by what each element is -/
/-- an iterator that gives the things xs, as long as the heap only grows -/
structure Ys (J : It) (xs : List V) (H1 : Hp) : Prop where
  go : ∀ i H, Same H1 H → i < xs.length → J.go i H
  yld : ∀ i H x H', Same H1 H → i < xs.length → J.yld i H x H' → H' = H ∧ xs[i]? = some x
  stop : ∀ i H, Same H1 H → xs.length ≤ i → J.stop i H
theorem Ys.tup {K : PySem.W.Frag} {a : Addr} {xs : List V} {H1 : Hp} (h : SqT K H1 a xs) : Ys (Itt K a) xs H1 where
  go := fun i H s hi => ⟨xs, xs[i], s.tup h, List.getElem?_eq_getElem hi⟩
  yld := fun i H x H' s _ y => ⟨y.1, y.2 xs (s.tup h)⟩
  stop := fun i H s hi => ⟨xs, s.tup h, hi⟩
def rngV (lo : Int) (n : Nat) : List V := (List.range n).map fun (i : Nat) => V.int (lo + (i : Int))
theorem rngV_len (lo : Int) (n : Nat) : (rngV lo n).length = n := by unfold rngV; rw [List.length_map, List.length_range]
theorem rngV_get {lo : Int} {n i : Nat} {x : V} (h : (rngV lo n)[i]? = some x) : i < n ∧ x = .int (lo + i) := by
  have hi : i < n := by rw [← rngV_len lo n]; exact (List.getElem?_eq_some_iff.mp h).1
  unfold rngV at h
  rw [List.getElem?_map, List.getElem?_range hi] at h
  exact ⟨hi, (Option.some.inj h).symm⟩
theorem Ys.rng {lo : Int} {n : Nat} {H1 : Hp} : Ys (Itr lo n) (rngV lo n) H1 where
  go := fun i H _ hi => by rw [rngV_len] at hi; exact hi
  yld := fun i H x H' _ hi y => ⟨y.1, by
    obtain ⟨_, rfl⟩ := y
    rw [rngV_len] at hi
    unfold rngV
    rw [List.getElem?_map, List.getElem?_range hi]
    rfl⟩
  stop := fun i H _ hi => by rw [rngV_len] at hi; exact hi
theorem snoc_get {α : Type} {ys : List α} {y z : α} {j : Nat} (h : (ys ++ [y])[j]? = some z) : (j < ys.length ∧ ys[j]? = some z) ∨ (j = ys.length ∧ z = y) := by
  by_cases hj : j < ys.length
  · rw [List.getElem?_append_left hj] at h
    exact .inl ⟨hj, h⟩
  · rw [List.getElem?_append_right (by omega)] at h
    have e0 : j - ys.length = 0 := by
      cases hz : j - ys.length with
      | zero => rfl
      | succ n => rw [hz] at h; simp at h
    rw [e0] at h
    exact .inr ⟨by omega, by simpa using h.symm⟩
theorem comp_rel {J : It} {xs : List V} {D : Addr} {g : TG} {te : TE} {σ0 : St} {QD : Hp → Prop} {H1 : Hp} (Y : Ys J xs H1) (Pr : Nat → V → V → Hp → Prop) (hP : ∀ i x y H H', Pr i x y H → Tk H H' → Pr i x y H') (hD : H1 D = none) (hl : xs.length ≤ 1000)
    (hs : ∀ i x H' (R : VK), xs[i]? = some x → Same H1 H' → (∀ y H4, Same H' H4 → Pr i x y H4 → R y H4) → g x σ0 H' fun σ2 H2 => Keep σ0 σ2 ∧ te σ2 H2 R)
    (hd : ∀ ys H', Same H1 H' → H' D = some (.lst ys) → ys.length = xs.length → (∀ i x y, xs[i]? = some x → ys[i]? = some y → Pr i x y H') → QD H') :
    ∃ W : Nat → Nat → List V → Hp → Prop, (∃ m, W 0 m [] (upd H1 D (.lst []))) ∧ ∀ i m ys H, W i m ys H → H D = some (.lst ys) ∧ ys.length < sizeLine ∧
      ((J.stop i H ∧ QD H) ∨ (J.go i H ∧ ∀ x H', J.yld i H x H' → g x σ0 H' fun σ2 H2 => Keep σ0 σ2 ∧ tNoIf σ2 H2 fun b H3 =>
        if b = true then te σ2 H3 fun y H4 => H4 D = some (.lst ys) ∧ ∃ m', m' < m ∧ W (i + 1) m' (ys ++ [y]) (upd H4 D (.lst (ys ++ [y]))) else ∃ m', m' < m ∧ W (i + 1) m' ys H3)) := by
  refine ⟨fun i m ys H => m = xs.length - i ∧ i ≤ xs.length ∧ Same H1 H ∧ H D = some (.lst ys) ∧ ys.length = i ∧ ∀ j x y, xs[j]? = some x → ys[j]? = some y → Pr j x y H,
    ⟨_, rfl, Nat.zero_le _, Same.upd hD, upd_same, rfl, fun j x y _ h => by simp at h⟩, ?_⟩
  rintro i m ys H ⟨rfl, hi, sm, hDH, yl, pr⟩
  refine ⟨hDH, small1000 (by omega), ?_⟩
  by_cases hlt : i < xs.length
  · refine .inr ⟨Y.go i H sm hlt, fun x H' y => ?_⟩
    obtain ⟨rfl, hx⟩ := Y.yld i H x H' sm hlt y
    refine hs i x H' _ hx sm fun y H4 s4 py => ?_
    have hD4 := s4 _ _ hDH
    have tk : Tk H4 (upd H4 D (.lst (ys ++ [y]))) := Tk.lst hD4
    refine ⟨hD4, xs.length - (i + 1), by omega, rfl, hlt, fun b o hb => ?_, upd_same, by rw [List.length_append, yl]; rfl, fun j x' y' hx' hy' => ?_⟩
    · rw [upd_ne (ne_of_none hb hD)]
      exact s4 _ _ (sm _ _ hb)
    · rcases snoc_get hy' with ⟨_, hy'⟩ | ⟨e, e'⟩
      · exact hP _ _ _ _ _ (hP _ _ _ _ _ (pr j x' y' hx' hy') (Same.tk s4)) tk
      · subst e'
        have : j = i := by omega
        subst this
        rw [hx] at hx'
        cases hx'
        exact hP _ _ _ _ _ py tk
  · have e : i = xs.length := by omega
    subst e
    exact .inl ⟨Y.stop _ H sm (Nat.le_refl _), hd ys H sm hDH yl pr⟩
/-! ### rules within a comprehension: the module is named, so that the reading does not hang on the block -/
end L2

namespace L2
open PySem PySem.Spec PyProof.Rows
/-! ### zip of a tuple and a list -/
section
variable {prog : Program} {w : World} {A : Around} {E : Value → Shared → Prop} {s : Shared}
theorem tupNext {it t : Addr} {i : Nat} {its : Array Value} {x : Value} {Q : Value → Shared → Prop} (st : s.heap.IsTupleIter it t i) (hl : s.heap.IsTuple t its) (hx : its[i]? = some x)
    (q : ∀ g, g.IsTupleIter it t (i + 1) → Heap.SameBut it s.heap g → Q x { s with heap := g }) : wpAny (model prog w) A (Builtin.SmallTypes.nextOf (.ref it)) Q E s := by
  obtain ⟨ob, e1, e2, e3⟩ := id st
  obtain ⟨ot, e4, _, m, e5⟩ := hl
  unfold Builtin.SmallTypes.nextOf
  refine wpAny_bind (wpAny_callSpecial?_slot (name := Str.ofString "__next__") st.typeIs F.slot_tuple_iterator_next (wpAny_call_entry F.slot_tuple_iterator_next st.typeIs F.entry_tuple_iterator_next ?_ (F.args_tuple_iterator_next_1 _)))
  refine wpAny_bind (m := field (.ref it) 0) (wpAny_field e1 e3 (x := .ref t) rfl ?_)
  show wpAny _ _ (if (Value.ref t == Value.none) = true then _ else (field (.ref it) 1 >>= _)) _ _ s
  rw [if_neg (show ¬ (Value.ref t == Value.none) = true from (fun z => nomatch z))]
  refine wpAny_bind (wpAny_field e1 e3 (x := .int i 0) rfl (wpAny_bind (m := seqItems? (.ref t)) (wpAny_seqItems e4 e5 ?_)))
  simp only [Int.toNat_natCast, hx]
  refine wpAny_bind (wpAny_setField e1 e3 (by simp) (wpAny_pure ⟨x, rfl, wpAny_pure (q _ ⟨_, Heap.get?_update_self _ e1 (Obj.isFreed_of_fields (Obj.data_mapFields e3 _)), (Obj.cls_mapFields ..).trans e2, ?_⟩ (Heap.SameBut.update ..))⟩))
  rw [Obj.data_mapFields e3]
  simp [rawInt]
theorem tupStop {it t : Addr} {i : Nat} {its : Array Value} {Q : Value → Shared → Prop} (hh : A.handled = none) (st : s.heap.IsTupleIter it t i) (hl : s.heap.IsTuple t its) (hx : its[i]? = none)
    (q : ∀ g e, Heap.ExtBut it s.heap g → (∃ o, g.get? e = some o ∧ o.cls = .type "StopIteration") → E (.ref e) { s with heap := g }) : wpAny (model prog w) A (Builtin.SmallTypes.nextOf (.ref it)) Q E s := by
  obtain ⟨ob, e1, e2, e3⟩ := id st
  obtain ⟨ot, e4, _, m, e5⟩ := hl
  unfold Builtin.SmallTypes.nextOf
  refine wpAny_bind (wpAny_callSpecial?_slot (name := Str.ofString "__next__") st.typeIs F.slot_tuple_iterator_next (wpAny_call_entry F.slot_tuple_iterator_next st.typeIs F.entry_tuple_iterator_next ?_ (F.args_tuple_iterator_next_1 _)))
  refine wpAny_bind (m := field (.ref it) 0) (wpAny_field e1 e3 (x := .ref t) rfl ?_)
  show wpAny _ _ (if (Value.ref t == Value.none) = true then _ else (field (.ref it) 1 >>= _)) _ _ s
  rw [if_neg (show ¬ (Value.ref t == Value.none) = true from (fun z => nomatch z))]
  refine wpAny_bind (wpAny_field e1 e3 (x := .int i 0) rfl (wpAny_bind (m := seqItems? (.ref t)) (wpAny_seqItems e4 e5 ?_)))
  simp only [Int.toNat_natCast, hx]
  refine wpAny_bind (wpAny_rule (wpAny_bind (wpAny_setField e1 e3 (by simp) (wpAny_bind (m := newExc (.type "StopIteration") []) ?_))))
  simp only [newExc, newTuple]
  refine wpAny_bind (wpAny_newObj_type (wpAny_bind (m := firstArgMember _ _) (wpAny_of_eq (a := Value.none) (by first | rfl | (simp only [firstArgMember]; rfl)) (wpAny_newObj_type ?_ (by size_fits)))) (by size_fits))
  simp only [raiseNew]
  refine wpAny_bind (wpAny_handled ?_)
  first | rw [show A.in1.handled = none from hh] | rw [hh]
  exact wpAny_bind (wpAny_pure (wpAny_throw (q _ _ (((Heap.SameBut.update ..).extBut.push _).push _) ⟨_, Heap.get?_push_size _ rfl, rfl⟩)))
theorem drawsTup (hh : A.handled = none) (it t : Addr) (hne : t ≠ it) (its : Array Value) :
    Draws prog w A it [it, t] its.size (fun i v => its[i]? = some v) (fun i h => h.IsTupleIter it t i ∧ h.IsTuple t its) where
  live := fun _ _ z => let ⟨o, e, _⟩ := z.1; ⟨o, e⟩
  frame := fun _ _ _ z k => ⟨z.1.at fun o e => k it (by simp) o e, z.2.at fun o e => k t (by simp) o e⟩
  item := fun i s Q E hi z k => tupNext z.1 z.2 (x := its[i]) (by simp [hi]) fun g z' sb => k _ g s.toks (by simp [hi]) ⟨z', z.2.extBut sb.extBut hne⟩ sb
  done := fun s Q E z k => tupStop hh z.1 z.2 (by simp) k
/-- the objects of a zip are apart -/
structure Ap (z TI TO i1 i2 : Addr) (f1 f2 : List Addr) : Prop where
  a1 : ∀ b ∈ f1, b ≠ z ∧ b ≠ TO ∧ b ≠ i2
  a2 : ∀ b ∈ f2, b ≠ z ∧ b ≠ TO ∧ b ≠ i1
  m1 : i1 ∈ f1
  m2 : i2 ∈ f2
  tz : TI ≠ z
  tO : TI ≠ TO
  t1 : TI ≠ i1
  t2 : TI ≠ i2
  oz : TO ≠ z
section
variable {z TI TO i1 i2 : Addr} {f1 f2 : List Addr} {n1 n2 k : Nat} {P1 P2 : Nat → Value → Prop} {S1 S2 : Nat → Heap → Prop} {a b : Value}
theorem zipNext {Q : Value → Shared → Prop} (D1 : Draws prog w A i1 f1 n1 P1 S1) (D2 : Draws prog w A i2 f2 n2 P2 S2) (ap : Ap z TI TO i1 i2 f1 f2) (hz : IsZip s.heap z TI TO .none) (hI : IsPair s.heap TI (.ref i1) (.ref i2)) (hO : IsPair s.heap TO a b)
    (h1 : S1 k s.heap) (h2 : S2 k s.heap) (l1 : k < n1) (l2 : k < n2)
    (q : ∀ x y T g t', P1 k x → P2 k y → T = s.heap.objs.size → IsZip g z TI TO (rawInt T) → IsPair g TO x y → S1 (k + 1) g → S2 (k + 1) g → IsPair g T x y → (∀ c o, c ≠ z → c ≠ TO → c ≠ i1 → c ≠ i2 → s.heap.get? c = some o → g.get? c = some o) → Q (.ref T) { s with heap := g, toks := t' }) :
    wpAny (model prog w) A (Builtin.«zip.__next__» ⟨[.ref z], []⟩) (fun fin s' => ∃ v, fin = .done (.ret v) ∧ Q v s') E s := by
  have z1 := ap.a1 i1 ap.m1
  have z2 := ap.a2 i2 ap.m2
  refine wpAny_bind (m := field (.ref z) 2) (wpAny_field hz rfl (x := .bool false) rfl (wpAny_bind (m := field (.ref z) 3) (wpAny_field hz rfl (x := .ref TI) rfl (wpAny_bind (wpAny_seqItems hI rfl (wpAny_bind (m := Builtin.SmallTypes.ownedTupleIsFree (.ref z)) ?_))))))
  unfold Builtin.SmallTypes.ownedTupleIsFree
  refine wpAny_bind (wpAny_field hz rfl (x := .none) rfl (wpAny_pure ?_))
  simp only [if_true]
  refine wpAny_bind (wpAny_rule (wpAny_bind (wpAny_field hz rfl (x := .ref TO) rfl (wpAny_bind (wpAny_setField_rec hz (by simp) fun ga ca sa => wpAny_bind ?_)))))
  replace ca : IsZip ga z TI TO .ellipsis := ca
  have ka : ∀ c o, c ≠ z → s.heap.get? c = some o → ga.get? c = some o := fun c o n e => sa.extBut _ _ n e
  simp only [List.zipIdx_cons, List.zipIdx_nil, List.forIn_cons, List.forIn_nil]
  -- the first one
  refine wpAny_bind (wpAny_bind (wpAny_onRaise (wpAny_bind (m := Builtin.SmallTypes.nextOf (.ref i1)) (D1.item k _ _ _ l1 (D1.frame _ _ _ h1 fun c hc o e => ka c o (ap.a1 c hc).1 e) fun x gb tb px sb cb => wpAny_pure ?_))))
  have kb : ∀ c o, c ≠ z → c ≠ i1 → s.heap.get? c = some o → gb.get? c = some o := fun c o n n' e => cb.extBut _ _ n' (ka c o n e)
  have hOb : IsPair gb TO a b := kb _ _ ap.oz (fun e => z1.2.1 e.symm) hO
  refine wpAny_bind (wpAny_seqItems hOb rfl (wpAny_bind (wpAny_updateSeq_pair hOb fun gc hOc cc => wpAny_bind (wpAny_letGo (wpAny_pure ?_)))))
  replace hOc : IsPair gc TO x b := hOc
  have kc : ∀ c o, c ≠ z → c ≠ i1 → c ≠ TO → s.heap.get? c = some o → gc.get? c = some o := fun c o n n' n2 e => cc.extBut _ _ n2 (kb c o n n' e)
  have sc1 : S1 (k + 1) gc := D1.frame _ _ _ sb fun c hc o e => cc.extBut _ _ (ap.a1 c hc).2.1 e
  -- the second one
  refine wpAny_bind (wpAny_bind (wpAny_onRaise (wpAny_bind (m := Builtin.SmallTypes.nextOf (.ref i2)) (D2.item k _ _ _ l2 (D2.frame _ _ _ h2 fun c hc o e => kc c o (ap.a2 c hc).1 (ap.a2 c hc).2.2 (ap.a2 c hc).2.1 e) fun y gd td py sd cd => wpAny_pure ?_))))
  have hOd : IsPair gd TO x b := cd.extBut _ _ (fun e => z2.2.1 e.symm) hOc
  refine wpAny_bind (wpAny_seqItems hOd rfl (wpAny_bind (wpAny_updateSeq_pair hOd fun ge hOe ce => wpAny_bind (wpAny_letGo (wpAny_pure (wpAny_pure ?_))))))
  replace hOe : IsPair ge TO x y := hOe
  have ke : ∀ c o, c ≠ z → c ≠ TO → c ≠ i1 → c ≠ i2 → s.heap.get? c = some o → ge.get? c = some o := fun c o n n1 n2 n3 e => ce.extBut _ _ n1 (cd.extBut _ _ n3 (kc c o n n2 n1 e))
  have hze : IsZip ge z TI TO .ellipsis := ce.extBut _ _ (Ne.symm ap.oz) (cd.extBut _ _ (Ne.symm z2.1) (cc.extBut _ _ (Ne.symm ap.oz) (cb.extBut _ _ (Ne.symm z1.1) ca)))
  have se1 : S1 (k + 1) ge := D1.frame _ _ _ sc1 fun c hc o e => ce.extBut _ _ (ap.a1 c hc).2.1 (cd.extBut _ _ (ap.a1 c hc).2.2 e)
  have se2 : S2 (k + 1) ge := D2.frame _ _ _ sd fun c hc o e => ce.extBut _ _ (ap.a2 c hc).2.1 e
  have szs : s.heap.objs.size = ge.objs.size := by rw [ce.1, cd.1, cc.1, cb.1, sa.1]
  refine wpAny_bind (wpAny_seqItems hOe rfl (wpAny_bind (wpAny_newTuple (wpAny_bind (m := Builtin.SmallTypes.ownedTupleHandOut (.ref z) (.ref ge.objs.size)) ?_))))
  unfold Builtin.SmallTypes.ownedTupleHandOut
  have zl : z < ge.objs.size := Heap.lt_size hze
  refine wpAny_bind (wpAny_setField_rec (show IsZip (ge.push { cls := .type "tuple", data := .seq #[x, y] }) z TI TO .ellipsis from Heap.get?_push_of_some _ hze) (by simp) fun gf cf sf => ?_)
  replace cf : IsZip gf z TI TO (rawInt ge.objs.size) := cf
  refine wpAny_setField_rec cf (by simp) fun gg cg sg => wpAny_pure ⟨_, rfl, ?_⟩
  replace cg : IsZip gg z TI TO (rawInt ge.objs.size) := cg
  have up : ∀ c o, c ≠ z → ge.get? c = some o → gg.get? c = some o := fun c o n e => sg.extBut _ _ n (sf.extBut _ _ n (Heap.get?_push_of_some _ e))
  have hT : IsPair gg ge.objs.size x y := sg.extBut _ _ (Nat.ne_of_gt zl) (sf.extBut _ _ (Nat.ne_of_gt zl) (Heap.get?_push_size _ rfl))
  exact q x y ge.objs.size gg _ px py szs.symm cg (up _ _ ap.oz hOe) (D1.frame _ _ _ se1 fun c hc o e => up c o (ap.a1 c hc).1 e) (D2.frame _ _ _ se2 fun c hc o e => up c o (ap.a2 c hc).1 e) hT fun c o n n1 n2 n3 e => up c o n (ke c o n n1 n2 n3 e)
theorem zipStop {Q : Fin → Shared → Prop} (D1 : Draws prog w A i1 f1 n1 P1 S1) (D2 : Draws prog w A i2 f2 n2 P2 S2) (ap : Ap z TI TO i1 i2 f1 f2) (hz : IsZip s.heap z TI TO .none) (hI : IsPair s.heap TI (.ref i1) (.ref i2)) (hO : IsPair s.heap TO a b)
    (h1 : S1 k s.heap) (h2 : S2 k s.heap) (hk : k = n1 ∨ (k < n1 ∧ k = n2))
    (q : ∀ g e t', (∀ c o, c ≠ z → c ≠ TO → c ≠ i1 → c ≠ i2 → s.heap.get? c = some o → g.get? c = some o) → (∃ o, g.get? e = some o ∧ o.cls = .type "StopIteration") → E (.ref e) { s with heap := g, toks := t' }) :
    wpAny (model prog w) A (Builtin.«zip.__next__» ⟨[.ref z], []⟩) Q E s := by
  have z1 := ap.a1 i1 ap.m1
  have z2 := ap.a2 i2 ap.m2
  refine wpAny_bind (m := field (.ref z) 2) (wpAny_field hz rfl (x := .bool false) rfl (wpAny_bind (m := field (.ref z) 3) (wpAny_field hz rfl (x := .ref TI) rfl (wpAny_bind (wpAny_seqItems hI rfl (wpAny_bind (m := Builtin.SmallTypes.ownedTupleIsFree (.ref z)) ?_))))))
  unfold Builtin.SmallTypes.ownedTupleIsFree
  refine wpAny_bind (wpAny_field hz rfl (x := .none) rfl (wpAny_pure ?_))
  simp only [if_true]
  refine wpAny_bind (wpAny_rule (wpAny_bind (wpAny_field hz rfl (x := .ref TO) rfl (wpAny_bind (wpAny_setField_rec hz (by simp) fun ga ca sa => wpAny_bind ?_)))))
  replace ca : IsZip ga z TI TO .ellipsis := ca
  have ka : ∀ c o, c ≠ z → s.heap.get? c = some o → ga.get? c = some o := fun c o n e => sa.extBut _ _ n e
  simp only [List.zipIdx_cons, List.zipIdx_nil, List.forIn_cons, List.forIn_nil]
  rcases hk with e | ⟨l1, e⟩
  · subst e
    refine wpAny_bind (wpAny_bind (wpAny_onRaise (wpAny_bind (m := Builtin.SmallTypes.nextOf (.ref i1)) (D1.done _ _ _ (D1.frame _ _ _ h1 fun c hc o e => ka c o (ap.a1 c hc).1 e) fun gb e cb he => ?_))))
    obtain ⟨oe, h3, h4⟩ := he
    have hzb : IsZip gb z TI TO .ellipsis := cb _ _ (Ne.symm z1.1) ca
    have hez : e ≠ z := fun x => by rw [x, hzb] at h3; cases h3; simp at h4
    exact wpAny_setField_rec hzb (by simp) fun gc _ cc => q gc e s.toks (fun c o n _ n2 _ x => cc.extBut _ _ n (cb _ _ n2 (ka c o n x))) ⟨oe, cc.extBut _ _ hez h3, h4⟩
  · subst e
    refine wpAny_bind (wpAny_bind (wpAny_onRaise (wpAny_bind (m := Builtin.SmallTypes.nextOf (.ref i1)) (D1.item k _ _ _ l1 (D1.frame _ _ _ h1 fun c hc o e => ka c o (ap.a1 c hc).1 e) fun x gb tb px sb cb => wpAny_pure ?_))))
    have kb : ∀ c o, c ≠ z → c ≠ i1 → s.heap.get? c = some o → gb.get? c = some o := fun c o n n' e => cb.extBut _ _ n' (ka c o n e)
    have hOb : IsPair gb TO a b := kb _ _ ap.oz (fun e => z1.2.1 e.symm) hO
    refine wpAny_bind (wpAny_seqItems hOb rfl (wpAny_bind (wpAny_updateSeq_pair hOb fun gc hOc cc => wpAny_bind (wpAny_letGo (wpAny_pure ?_)))))
    have kc : ∀ c o, c ≠ z → c ≠ i1 → c ≠ TO → s.heap.get? c = some o → gc.get? c = some o := fun c o n n' n2 e => cc.extBut _ _ n2 (kb c o n n' e)
    refine wpAny_bind (wpAny_bind (wpAny_onRaise (wpAny_bind (m := Builtin.SmallTypes.nextOf (.ref i2)) (D2.done _ _ _ (D2.frame _ _ _ h2 fun c hc o e => kc c o (ap.a2 c hc).1 (ap.a2 c hc).2.2 (ap.a2 c hc).2.1 e) fun gd e cd he => ?_))))
    obtain ⟨oe, h3, h4⟩ := he
    have hzd : IsZip gd z TI TO .ellipsis := cd _ _ (Ne.symm z2.1) (cc.extBut _ _ (Ne.symm ap.oz) (cb.extBut _ _ (Ne.symm z1.1) ca))
    have hez : e ≠ z := fun x => by rw [x, hzd] at h3; cases h3; simp at h4
    exact wpAny_setField_rec hzd (by simp) fun ge _ ce => q ge e tb (fun c o n n1 n2 n3 x => ce.extBut _ _ n (cd _ _ n3 (kc c o n n2 n1 x))) ⟨oe, ce.extBut _ _ hez h3, h4⟩
theorem zipPy {Q : Option Value → Shared → Prop} (D1 : Draws prog w A.in1 i1 f1 n1 P1 S1) (D2 : Draws prog w A.in1 i2 f2 n2 P2 S2) (ap : Ap z TI TO i1 i2 f1 f2) (hz : IsZip s.heap z TI TO .none) (hI : IsPair s.heap TI (.ref i1) (.ref i2)) (hO : IsPair s.heap TO a b)
    (h1 : S1 k s.heap) (h2 : S2 k s.heap) (l1 : k < n1) (l2 : k < n2)
    (q : ∀ x y T g t', P1 k x → P2 k y → T = s.heap.objs.size → IsZip g z TI TO (rawInt T) → IsPair g TO x y → S1 (k + 1) g → S2 (k + 1) g → IsPair g T x y → (∀ c o, c ≠ z → c ≠ TO → c ≠ i1 → c ≠ i2 → s.heap.get? c = some o → g.get? c = some o) → Q (some (.ref T)) { s with heap := g, toks := t' }) :
    wpAny (model prog w) A (pyNext (.ref z)) Q E s := by
  have ty : s.TypeIs (.ref z) "zip" := ⟨_, hz, rfl⟩
  unfold pyNext
  exact wpAny_bind (wpAny_attempt (wpAny_callSpecial?_slot (name := Str.ofString "__next__") ty F.slot_zip_next (wpAny_call_entry F.slot_zip_next ty F.entry_zip_next (zipNext D1 D2 ap hz hI hO h1 h2 l1 l2 fun x y T g t' c1 c2 c3 c4 c5 c6 c7 c8 c9 => wpAny_pure (q x y T g t' c1 c2 c3 c4 c5 c6 c7 c8 c9)) (F.args_zip_next_1 _))))
theorem zipPyStop {Q : Option Value → Shared → Prop} (D1 : Draws prog w A.in1 i1 f1 n1 P1 S1) (D2 : Draws prog w A.in1 i2 f2 n2 P2 S2) (ap : Ap z TI TO i1 i2 f1 f2) (hz : IsZip s.heap z TI TO .none) (hI : IsPair s.heap TI (.ref i1) (.ref i2)) (hO : IsPair s.heap TO a b)
    (h1 : S1 k s.heap) (h2 : S2 k s.heap) (hk : k = n1 ∨ (k < n1 ∧ k = n2))
    (q : ∀ g t', (∀ c o, c ≠ z → c ≠ TO → c ≠ i1 → c ≠ i2 → s.heap.get? c = some o → g.get? c = some o) → Q none { s with heap := g, toks := t' }) : wpAny (model prog w) A (pyNext (.ref z)) Q E s := by
  have ty : s.TypeIs (.ref z) "zip" := ⟨_, hz, rfl⟩
  unfold pyNext
  refine wpAny_bind (wpAny_attempt (wpAny_callSpecial?_slot (name := Str.ofString "__next__") ty F.slot_zip_next (wpAny_call_entry F.slot_zip_next ty F.entry_zip_next (zipStop D1 D2 ap hz hI hO h1 h2 hk fun g e t' kp he => ?_) (F.args_zip_next_1 _))))
  obtain ⟨o, h3, h4⟩ := he
  exact wpAny_bind (wpAny_isInstance (T := "StopIteration") (b := true) ⟨o, h3, h4⟩ isSubtype_stop (wpAny_pure (q _ _ kp)))
end
end
/-- the i-th items of a tuple and of a list, in a new tuple -/
def Itz (K : PySem.W.Frag) (a b : Addr) : It :=
  ⟨fun i H => ∃ xs ys, SqT K H a xs ∧ SqL K H b ys ∧ i < xs.length ∧ i < ys.length,
   fun i H v H' => ∃ T, H T = none ∧ v = .ref T ∧ ∀ xs ys, SqT K H a xs → SqL K H b ys → ∃ x y, xs[i]? = some x ∧ ys[i]? = some y ∧ H' = upd H T (.tup [x, y]),
   fun i H => ∃ xs ys, SqT K H a xs ∧ SqL K H b ys ∧ (i = xs.length ∨ (i < xs.length ∧ i = ys.length))⟩
theorem Inv.turnedL {X : Cx} {pins : List (Addr × Obj)} {σ : St} {H : Hp} {s : Shared} {h' : Heap} {t' : Nat} {ch : List Addr} (I : Inv X pins σ H s) (k : ∀ b o, b ∉ ch → s.heap.get? b = some o → h'.get? b = some o) (hf : ∀ b ∈ ch, FpOk X pins H b) : Inv X pins σ H { s with heap := h', toks := t' } := by
  have nit : ∀ b u, H b = some u → b ∉ ch := fun b u e z => by rw [(hf b z).1] at e; cases e
  refine I.step (g' := s.gens) (d' := s.drawn) (ch := ch) (fun b hb => ⟨(hf b hb).2.2.2.1, (hf b hb).2.1, (hf b hb).2.2.2.2.1, (hf b hb).2.2.2.2.2⟩) (fun b o _ _ hc e _ => k b o hc e) (fun b o _ _ hc e _ => ⟨o.slots, k b o hc e⟩) (fun _ _ _ _ n => n)
    (fun b o hc e => ⟨o, k b o hc e⟩) (fun _ _ e => e) (fun _ _ _ e => e) (fun b ps e => ⟨#[], by rw [e]; simp⟩) (fun m hm => ?_) (fun b u e => ?_) I.bare
  · obtain ⟨o, es, ep, ho, r⟩ := hm
    exact ⟨o, es, ep, k _ o (fun z => (hf _ z).2.1 rfl) ho, r⟩
  · refine (I.hok b u e).stay (fun c v hc q => k c v ?_ q) (fun _ q => q) fun _ _ q => q
    rcases hc with z | z
    · rw [z]; exact nit b u e
    · exact nit c _ z
/-- a zip's objects, laid one behind another from n on -/
def ZipSt (n a b : Nat) (i : Nat) (h : Heap) : Prop := IsZip h (n + 4) (n + 2) (n + 3) .none ∧ IsPair h (n + 2) (.ref n) (.ref (n + 1)) ∧ (∃ x y, IsPair h (n + 3) x y) ∧ h.IsTupleIter n a i ∧ h.IsListIter (n + 1) b i
theorem ap_new {n a b : Nat} (ha : a < n) (hb : b < n) : Ap (n + 4) (n + 2) (n + 3) n (n + 1) [n, a] [n + 1, b] where
  a1 := fun c hc => by
    have hc' : c = n ∨ c = a := by simpa using hc
    rcases hc' with e | e <;> (subst e; exact ⟨by show (_ : Nat) ≠ _; omega, by show (_ : Nat) ≠ _; omega, by show (_ : Nat) ≠ _; omega⟩)
  a2 := fun c hc => by
    have hc' : c = n + 1 ∨ c = b := by simpa using hc
    rcases hc' with e | e <;> (subst e; exact ⟨by show (_ : Nat) ≠ _; omega, by show (_ : Nat) ≠ _; omega, by show (_ : Nat) ≠ _; omega⟩)
  m1 := by simp
  m2 := by simp
  tz := by show (_ : Nat) ≠ _; omega
  tO := by show (_ : Nat) ≠ _; omega
  t1 := by show (_ : Nat) ≠ _; omega
  t2 := by show (_ : Nat) ≠ _; omega
  oz := by show (_ : Nat) ≠ _; omega
theorem turn_zip {P : Program} {w : World} {K : PySem.W.Frag} {es : List Expr} {k1 : Nat} {p1 : Pos} {n a b : Nat} (ha : a < n) (hb : b < n) :
    Turn P w K (.Tuple es k1 p1) (Itz K a b) [n + 4, n + 2, n + 3, n, n + 1] (n + 4) (ZipSt n a b) where
  mem := by simp
  obj := fun i h st c hc => by
    obtain ⟨c1, c2, ⟨x, y, c3⟩, ⟨o4, d4, _, f4⟩, ⟨o5, d5, _, f5⟩⟩ := st
    have hc' : c = n + 4 ∨ c = n + 2 ∨ c = n + 3 ∨ c = n ∨ c = n + 1 := by simpa using hc
    rcases hc' with e | e | e | e | e
    · subst e; exact ⟨_, c1, fun v z => by cases z⟩
    · subst e; exact ⟨_, c2, fun v z => by cases z⟩
    · subst e; exact ⟨_, c3, fun v z => by cases z⟩
    · subst e; exact ⟨_, d4, fun v z => by rw [f4] at z; cases z⟩
    · subst e; exact ⟨_, d5, fun v z => by rw [f5] at z; cases z⟩
  keep := fun i h h' st k => by
    obtain ⟨c1, c2, ⟨x, y, c3⟩, c4, c5⟩ := st
    exact ⟨k _ (by simp) _ c1, k _ (by simp) _ c2, ⟨x, y, k _ (by simp) _ c3⟩, c4.at fun o e => k _ (by simp) o e, c5.at fun o e => k _ (by simp) o e⟩
  item := by
    intro X hP hw hK hc i pins s σ H E I hf st hg
    subst hP hw hK
    obtain ⟨xs, ys, hx, hy, l1, l2⟩ := hg
    obtain ⟨its, r1, tx, _⟩ := I.tuple hx
    obtain ⟨its', r2, ty, _⟩ := I.list hy
    have e1 := r1.length
    have e2 := r2.length
    obtain ⟨c1, c2, ⟨x0, y0, c3⟩, c4, c5⟩ := st
    have hh : X.A.in1.handled = none := I.ok.hd hc
    refine zipPy (drawsTup hh n a (by show (_ : Nat) ≠ _; omega) its.toArray) (Draws.list hh (n + 1) b (by show (_ : Nat) ≠ _; omega) its'.toArray) (ap_new ha hb) c1 c2 c3 ⟨c4, tx⟩ ⟨c5, isList_of ty⟩ (by rw [List.size_toArray]; omega) (by rw [List.size_toArray]; omega) fun x y T g t' px py hT cz cO s1 s2 cT kp => ⟨.ref T, rfl, ?_⟩
    subst hT
    refine wpAny_letOwnedTupleGo_zip (s := { s with heap := g, toks := t' }) cz fun g' cz' sb => ?_
    obtain ⟨vx, hvx⟩ : ∃ v, xs[i]? = some v := ⟨_, List.getElem?_eq_getElem l1⟩
    obtain ⟨vy, hvy⟩ : ∃ v, ys[i]? = some v := ⟨_, List.getElem?_eq_getElem l2⟩
    obtain ⟨ux, hux, rx⟩ := r1.get hvx
    obtain ⟨uy, huy, ry⟩ := r2.get hvy
    have ex : x = ux := by
      have : its.toArray[i]? = some x := px
      rw [← Array.getElem?_toList, List.toList_toArray, hux] at this
      exact (Option.some.inj this).symm
    have ey : y = uy := by
      have : its'.toArray[i]? = some y := py
      rw [← Array.getElem?_toList, List.toList_toArray, huy] at this
      exact (Option.some.inj this).symm
    subst ex ey
    have hfr : H s.heap.objs.size = none := I.hok.fresh (Nat.le_refl _)
    have I0 : Inv X pins σ (upd H s.heap.objs.size (.tup [vx, vy])) { s with heap := s.heap.push { cls := .type "tuple", data := .seq #[x, y] }, toks := t' } :=
      I.laid (fun c u q => Heap.get?_push_of_some _ q) (Nat.le_refl _) ⟨by show 2 ≤ sizeLine; decide, [x, y], .cons rx (.cons ry .nil), ⟨_, Heap.get?_push_size s.heap rfl, rfl, _, rfl⟩⟩
    have lz : n + 4 < s.heap.objs.size := Heap.lt_size c1
    have fpn : ∀ c ∈ [n + 4, n + 2, n + 3, n, n + 1], c ≠ s.heap.objs.size := fun c hc' => by
      have hc'' : c = n + 4 ∨ c = n + 2 ∨ c = n + 3 ∨ c = n ∨ c = n + 1 := by simpa using hc'
      rcases hc'' with e | e | e | e | e <;> (subst e; exact Nat.ne_of_lt (by omega))
    have hf0 : ∀ c ∈ [n + 4, n + 2, n + 3, n, n + 1], FpOk X pins (upd H s.heap.objs.size (.tup [vx, vy])) c := fun c hc' => ⟨by rw [upd_ne (fpn c hc')]; exact (hf c hc').1, (hf c hc').2⟩
    have I1 : Inv X pins σ (upd H s.heap.objs.size (.tup [vx, vy])) { s with heap := g', toks := t' } := by
      refine Inv.turnedL (s := { s with heap := s.heap.push { cls := .type "tuple", data := .seq #[x, y] }, toks := t' }) (h' := g') (t' := t') (ch := [n + 4, n + 2, n + 3, n, n + 1]) I0 (fun c o hc' e => ?_) hf0
      replace e : (s.heap.push { cls := .type "tuple", data := .seq #[x, y] }).get? c = some o := e
      have hn : ∀ d ∈ [n + 4, n + 2, n + 3, n, n + 1], c ≠ d := fun d hd z => hc' (by rw [z]; exact hd)
      refine sb.extBut _ _ (hn _ (by simp)) ?_
      by_cases ec : c = s.heap.objs.size
      · rw [ec] at e ⊢
        rw [Heap.get?_push_size s.heap rfl] at e
        cases e
        exact cT
      · rw [Heap.get?_push_ne _ _ _ ec] at e
        exact kp c o (hn _ (by simp)) (hn _ (by simp)) (hn _ (by simp)) (hn _ (by simp)) e
    refine ⟨.ref s.heap.objs.size, _, I1, rfl, ⟨_, hfr, rfl, fun xs' ys' hx' hy' => ⟨vx, vy, by rw [I.tuple_inj hx' hx]; exact hvx, by rw [I.list_inj hy' hy]; exact hvy, rfl⟩⟩, ?_, fun c hc' => (hf0 c hc').1⟩
    have nz : ∀ d : Nat, d < n + 4 → d ≠ n + 4 := fun d hd => Nat.ne_of_lt hd
    exact ⟨cz', sb.extBut _ _ (nz _ (by omega)) (kp _ _ (nz _ (by omega)) (by show (_ : Nat) ≠ _; omega) (by show (_ : Nat) ≠ _; omega) (by show (_ : Nat) ≠ _; omega) c2), ⟨x, y, sb.extBut _ _ (nz _ (by omega)) cO⟩, s1.1.extBut sb.extBut (nz _ (by omega)), s2.1.extBut sb.extBut (nz _ (by omega))⟩
  done := by
    intro X hP hw hK hc i pins s σ H E I hf st hg
    subst hP hw hK
    obtain ⟨xs, ys, hx, hy, l⟩ := hg
    obtain ⟨its, r1, tx, _⟩ := I.tuple hx
    obtain ⟨its', r2, ty, _⟩ := I.list hy
    have e1 := r1.length
    have e2 := r2.length
    obtain ⟨c1, c2, ⟨x0, y0, c3⟩, c4, c5⟩ := st
    have hh : X.A.in1.handled = none := I.ok.hd hc
    refine zipPyStop (drawsTup hh n a (by show (_ : Nat) ≠ _; omega) its.toArray) (Draws.list hh (n + 1) b (by show (_ : Nat) ≠ _; omega) its'.toArray) (ap_new ha hb) c1 c2 c3 ⟨c4, tx⟩ ⟨c5, isList_of ty⟩ (by rw [List.size_toArray, List.size_toArray]; omega) fun g t' kp => ⟨rfl, I.turnedL (ch := [n + 4, n + 2, n + 3, n, n + 1]) (fun c o hc' e => ?_) hf⟩
    have hn : ∀ d ∈ [n + 4, n + 2, n + 3, n, n + 1], c ≠ d := fun d hd z => hc' (by rw [z]; exact hd)
    exact kp c o (hn _ (by simp)) (hn _ (by simp)) (hn _ (by simp)) (hn _ (by simp)) e
  self := fun _ _ _ _ _ st h => wpAny_pyIter_zip st.1 h
abbrev zo1 (h : Heap) (a : Addr) : Heap := h.push { cls := .type "tuple_iterator", data := .fields #[.ref a, .int 0 0] }
abbrev zo2 (h : Heap) (a b : Addr) : Heap := (zo1 h a).push { cls := .type "list_iterator", data := .fields #[.ref b, .int 0 0] }
abbrev zo3 (h : Heap) (a b : Addr) : Heap := (zo2 h a b).push { cls := .type "tuple", data := .seq #[.ref h.objs.size, .ref (zo1 h a).objs.size] }
abbrev zo4 (h : Heap) (a b : Addr) : Heap := (zo3 h a b).push { cls := .type "tuple", data := .seq #[.none, .none] }
abbrev zo5 (h : Heap) (a b : Addr) : Heap := (zo4 h a b).push { cls := .type "zip", data := .fields #[.none, .bool false, .bool false, .ref (zo2 h a b).objs.size, .ref (zo3 h a b).objs.size] }
theorem zipMade (a b : Addr) (xs ys : Array Value) : Meets (Builtin.«zip.__new__» ⟨[.type "zip", .ref a, .ref b], []⟩) (fun _ R s => s.heap.IsTuple a xs ∧ s.heap.IsList b ys ∧ R (.ok (.ret (.ref (zo4 s.heap a b).objs.size))) { s with heap := zo5 s.heap a b }) := .of_wp fun prog w A R s h => by
  obtain ⟨hp, g, d, tk, os⟩ := s
  obtain ⟨q1, q2, q⟩ := h
  have hsub := sub_zip
  have u1 : Heap.IsTuple (Shared.heap ⟨hp, g, d, tk, os⟩) a xs := q1
  have u2 : Heap.IsList (Shared.heap ⟨hp.push { cls := .type "tuple_iterator", data := .fields #[.ref a, .int 0 0] }, g, d, tk, os⟩) b ys := Heap.IsList.push q2 _
  wp_walk using wpAny_pyIter_tuple u1, wpAny_pyIter_list u2
  exact ⟨_, rfl, q⟩
theorem call_zipTL {prog : Program} {w : World} {A : Around} {E : Value → Shared → Prop} {s : Shared} {a b : Addr} {xs ys : Array Value} {Q : Value → Shared → Prop} (q1 : s.heap.IsTuple a xs) (q2 : s.heap.IsList b ys)
    (q : ∀ g, ZipSt s.heap.objs.size a b 0 g → (∀ c o, s.heap.get? c = some o → g.get? c = some o) → Q (.ref (s.heap.objs.size + 4)) { s with heap := g }) : wpAny (model prog w) A (call (.type "zip") [.ref a, .ref b]) Q E s := by
  refine callType_new F.called_zip (by decide) (F.typeCall_zip_2 _ _) (F.newCall_zip_2 _ _) (fun obj => F.args_object_init_3 obj _ _) F.entry_zip_new (zipMade a b xs ys) ⟨q1, q2, ?_⟩
  have z1 : (zo1 s.heap a).objs.size = s.heap.objs.size + 1 := Heap.size_push ..
  have z2 : (zo2 s.heap a b).objs.size = s.heap.objs.size + 2 := by rw [Heap.size_push, z1]
  have z3 : (zo3 s.heap a b).objs.size = s.heap.objs.size + 3 := by rw [Heap.size_push, z2]
  have z4 : (zo4 s.heap a b).objs.size = s.heap.objs.size + 4 := by rw [Heap.size_push, z3]
  have o5 : (zo5 s.heap a b).get? (zo4 s.heap a b).objs.size = some _ := Heap.get?_push_size _ rfl
  have o4 : (zo5 s.heap a b).get? (zo3 s.heap a b).objs.size = some _ := Heap.get?_push_of_some _ (Heap.get?_push_size _ rfl)
  have o3 : (zo5 s.heap a b).get? (zo2 s.heap a b).objs.size = some _ := Heap.get?_push_of_some _ (Heap.get?_push_of_some _ (Heap.get?_push_size _ rfl))
  have o2 : (zo5 s.heap a b).get? (zo1 s.heap a).objs.size = some _ := Heap.get?_push_of_some _ (Heap.get?_push_of_some _ (Heap.get?_push_of_some _ (Heap.get?_push_size _ rfl)))
  have o1 : (zo5 s.heap a b).get? s.heap.objs.size = some _ := Heap.get?_push_of_some _ (Heap.get?_push_of_some _ (Heap.get?_push_of_some _ (Heap.get?_push_of_some _ (Heap.get?_push_size _ rfl))))
  rw [z2, z3, z4] at o5
  rw [z1, z2] at o3
  rw [z3] at o4
  rw [z1] at o2
  show _ ∧ _
  rw [z4]
  exact ⟨⟨_, o5, rfl⟩, q _ ⟨o5, o3, ⟨_, _, o4⟩, ⟨_, o1, rfl, rfl⟩, ⟨_, o2, rfl, rfl⟩⟩ fun c o x => Heap.get?_push_of_some _ (Heap.get?_push_of_some _ (Heap.get?_push_of_some _ (Heap.get?_push_of_some _ (Heap.get?_push_of_some _ x))))⟩
def iZip (K : PySem.W.Frag) (ta : TA) : TI := fun σ H R => ta σ H fun vs H1 => ∃ a b, vs = [.ref a, .ref b] ∧ (∃ xs, SqT K H1 a xs) ∧ (∃ ys, SqL K H1 b ys) ∧ R (Itz K a b) H1
theorem bt_zip : bootBuiltins "zip" = some (.type "zip") := by decide +kernel
theorem pi_zip {X : Cx} {es : List Expr} {k1 : Nat} {p1 : Pos} {e1 e2 : Expr} {ta : TA} {p pos : Pos} (hg : Gl X "zip") (hm : X.mg "zip" = none) (ha : PA X [e1, e2] ta) (hs : starEach [e1, e2] X.env = [(false, eval e1 X.env), (false, eval e2 X.env)] := by rfl) (hs2 : starEach [e2] X.env = [(false, eval e2 X.env)] := by rfl) :
    PI X (.Tuple es k1 p1) (.Call (.Name "zip" p) [e1, e2] [] pos) (iZip X.K ta) := by
  intro pins s σ H R I h
  refine Call_ (ld_blt I hg hm bt_zip (PyProof.Rows.callWith_type1 (thn (ha pos pins s σ H _ I h) fun us s1 ⟨vs, H1, I1, r1, q1⟩ => ?_) (by rw [hs, hs2]) (by rw [hs2]; rfl)))
  obtain ⟨a, b, rfl, ⟨xs, hx⟩, ⟨ys, hy⟩, q⟩ := q1
  cases r1 with
  | cons r rr =>
    cases rr with
    | cons r' rr =>
      cases rr
      cases r
      cases r'
      obtain ⟨its, _, tx, _⟩ := I1.tuple hx
      obtain ⟨its', _, ty, _⟩ := I1.list hy
      have la : a < s1.heap.objs.size := by obtain ⟨o, e, _⟩ := tx; exact Heap.lt_size e
      have lb : b < s1.heap.objs.size := by obtain ⟨o, e, _⟩ := isList_of ty; exact Heap.lt_size e
      refine call_zipTL tx (isList_of ty) fun g st kp => wpAny_pyIter_zip st.1 ?_
      have I2 : Inv X pins σ H1 { s1 with heap := g } := I1.kept (t' := s1.toks) kp
      refine ⟨s1.heap.objs.size + 4, _, _, _, H1, rfl, I2, turn_zip la lb, st, fun c hc => ?_, q⟩
      refine I1.fpOk ?_ (I1.hok.fresh ?_)
      all_goals
        have hc' : c = s1.heap.objs.size + 4 ∨ c = s1.heap.objs.size + 2 ∨ c = s1.heap.objs.size + 3 ∨ c = s1.heap.objs.size ∨ c = s1.heap.objs.size + 1 := by simpa using hc
        rcases hc' with e | e | e | e | e <;> (subst e; omega)
theorem for_zip {K : PySem.W.Frag} {a b : Addr} {xs ys : List V} {g : TG} {tb : TS} {D : Ends} {σ : St} {H : Hp} (Pv : Nat → St → Hp → Prop) (h0 : Pv 0 σ H) (hl : ∀ i σ H, i ≤ xs.length → Pv i σ H → SqT K H a xs ∧ SqL K H b ys) (hn : xs.length = ys.length)
    (hs : ∀ i x y T σ H, xs[i]? = some x → ys[i]? = some y → H T = none → Pv i σ H → g (.ref T) σ (upd H T (.tup [x, y])) fun σ2 H2 => tb { D with nx := Pv (i + 1), ct := Pv (i + 1), bk := D.nx } σ2 H2) (hd : ∀ σ H, Pv xs.length σ H → D.nx σ H) :
    ∃ W : Nat → Nat → St → Hp → Prop, (∃ m, W 0 m σ H) ∧ ∀ i m σ H, W i m σ H →
      ((Itz K a b).stop i H ∧ D.nx σ H) ∨ ((Itz K a b).go i H ∧ ∃ N : St → Hp → Prop, (∀ σ' H', N σ' H' → ∃ m', m' < m ∧ W (i + 1) m' σ' H') ∧ ∀ v H', (Itz K a b).yld i H v H' → g v σ H' fun σ2 H2 => tb { D with nx := N, ct := N, bk := D.nx } σ2 H2) := by
  refine ⟨fun i m σ H => m = xs.length - i ∧ i ≤ xs.length ∧ Pv i σ H, ⟨xs.length, by simp, Nat.zero_le _, h0⟩, ?_⟩
  rintro i m σ H ⟨rfl, hi, p⟩
  obtain ⟨q1, q2⟩ := hl i σ H hi p
  by_cases hlt : i < xs.length
  · refine .inr ⟨⟨xs, ys, q1, q2, hlt, by omega⟩, Pv (i + 1), fun σ' H' p' => ⟨xs.length - (i + 1), by omega, rfl, hlt, p'⟩, fun v H' y => ?_⟩
    obtain ⟨T, hT, rfl, y⟩ := y
    obtain ⟨x', y', e1, e2, rfl⟩ := y xs ys q1 q2
    exact hs i x' y' T σ H e1 e2 hT p
  · have e : i = xs.length := by omega
    subst e
    exact .inl ⟨⟨xs, ys, q1, q2, .inl rfl⟩, hd σ H p⟩
end L2

namespace L2
open PySem PySem.Spec PyProof.Rows

/-! ### lists of pairs as tables -/
section
variable {κ : Type} [DecidableEq κ]
def valV (kvs : List (κ × V)) (k : κ) : Option V := (kvs.find? fun kv => decide (kv.1 = k)).map (·.2)
/-- in its place, or at the end -/
def putK (kvs : List (κ × V)) (k : κ) (v : V) : List (κ × V) :=
  if (kvs.any fun kv => decide (kv.1 = k)) = true then kvs.map (fun kv => if kv.1 = k then (kv.1, v) else kv) else kvs ++ [(k, v)]
def dropK (kvs : List (κ × V)) (k : κ) : List (κ × V) := kvs.filter fun kv => decide (kv.1 ≠ k)

end


/-! ### a tracked dict, its keys ints and texts or tuples of these -/
/-- raw entries of a dict with tuple keys -/
abbrev KT (H : Hp) : List (List Key × V) → List (List Key × Addr × Value) → Prop := Paired fun p q => p.1 = q.1 ∧ H q.2.1 = some (.tup (p.1.map kV)) ∧ RelV p.2 q.2.2
section
variable {P : Program} {w : World} {H : Hp} {h : Heap} {a : Addr}
end

/-- what the dict at a holds at the key y -/
def DGet (H : Hp) (a : Addr) (y : V) (r : Option V) : Prop :=
  (∃ kvs k, Rd H a (.dK kvs) ∧ y = kV k ∧ r = valV kvs k) ∨ ∃ kvs k b, Rd H a (.dT kvs) ∧ y = .ref b ∧ H b = some (.tup (k.map kV)) ∧ r = valV kvs k
/-- the heap behind a[y] = v -/
def DPut (H : Hp) (a : Addr) (y v : V) (H' : Hp) : Prop :=
  (∃ kvs k, H a = some (.dK kvs) ∧ y = kV k ∧ kvs.length < sizeLine ∧ H' = upd H a (.dK (putK kvs k v))) ∨
  ∃ kvs k b, H a = some (.dT kvs) ∧ y = .ref b ∧ H b = some (.tup (k.map kV)) ∧ kvs.length < sizeLine ∧ H' = upd H a (.dT (putK kvs k v))
section
variable {X : Cx} {pins : List (Addr × Obj)} {σ : St} {H : Hp} {s : Shared} {a : Addr} {y v : V} {u r : Value} {o : Option V} {A : Around} {E : Value → Shared → Prop}

end

section
variable {X : Cx} {pins : List (Addr × Obj)} {σ : St} {H : Hp} {s : Shared} {a : Addr} {kvs : List (Key × V)} {k : Key} {u : Value} {A : Around} {E : Value → Shared → Prop}
end


/-! ### readings and rules -/
/-- the element of a subscription, not a slice -/
def NoSl (i : Expr) : Prop := ∀ ov iv, subscripted i false ov iv = operate [ov, iv] (getItem ov iv)
/-- d[y] -/
def tDGet (td ty : TE) : TE := fun σ H Q => td σ H fun x H1 => ty σ H1 fun y H2 => ∃ a v, x = .ref a ∧ DGet H2 a y (some v) ∧ Q v H2
/-- y in d, y not in d -/
def tDIn (ty td : TE) : TE := fun σ H Q => ty σ H fun y H1 => td σ H1 fun x H2 => ∃ a o, x = .ref a ∧ DGet H2 a y o ∧ Q (.bl o.isSome) H2
def tDNotIn (ty td : TE) : TE := fun σ H Q => ty σ H fun y H1 => td σ H1 fun x H2 => ∃ a o, x = .ref a ∧ DGet H2 a y o ∧ Q (.bl (!o.isSome)) H2
/-- d[y] = v -/
def sDPut (td ty tv : TE) : TS := fun D σ H => tv σ H fun v H1 => td σ H1 fun x H2 => ty σ H2 fun y H3 => ∃ a H4, x = .ref a ∧ DPut H3 a y v H4 ∧ D.nx σ H4
/-- d[y] op= v -/
def sDAug (td ty tv : TE) (rd : V → V → Hp → VK → Prop) : TS := fun D σ H => td σ H fun x H1 => ty σ H1 fun y H2 => ∃ a v, x = .ref a ∧ DGet H2 a y (some v) ∧
  tv σ H2 fun y2 H3 => rd v y2 H3 fun z H4 => ∃ H5, DPut H4 a y z H5 ∧ D.nx σ H5
/-- del d[y] -/
def sDDel (td ty : TE) : TS := fun D σ H => td σ H fun x H1 => ty σ H1 fun y H2 => ∃ a kvs k, x = .ref a ∧ H2 a = some (.dK kvs) ∧ y = kV k ∧ (valV kvs k).isSome = true ∧ D.nx σ (upd H2 a (.dK (dropK kvs k)))

section
variable {X : Cx} {o i e value : Expr} {pos pos' tpos : Pos} {td ty tv : TE}
end


/-! ### displays -/
/-- {}, to be a dict of the kind that is wanted -/
def tDNewK : TE := fun _ H Q => ∀ p, H p = none → Q (.ref p) (upd H p (.dK []))
def tDNewT : TE := fun _ H Q => ∀ p, H p = none → Q (.ref p) (upd H p (.dT []))
section
variable {X : Cx} {pos : Pos}
end

/-- the pairs of a display, from the left -/
def tPairs : List (TE × TE) → St → Hp → (List (V × V) → Hp → Prop) → Prop
  | [], _, H, Q => Q [] H
  | (tk, tv) :: r, σ, H, Q => tk σ H fun x H1 => tv σ H1 fun y H2 => tPairs r σ H2 fun ps H3 => Q ((x, y) :: ps) H3
abbrev VV : List (V × V) → List (Value × Value) → Prop := Paired fun p q => RelV p.1 q.1 ∧ RelV p.2 q.2
def PPs (X : Cx) (pos : Pos) (keys : List (Option Expr)) (values : List Expr) (trs : List (TE × TE)) : Prop :=
  ∀ (pins : List (Addr × Obj)) (s : Shared) (σ : St) (H : Hp) (Q : List (V × V) → Hp → Prop), Inv X pins σ H s → tPairs trs σ H Q →
    wpAny (model X.prog X.w) X.A (evalPairs (pairTrees keys values X.env pos)) (fun vs s' => ∃ ps H', Inv X pins σ H' s' ∧ VV ps vs ∧ Q ps H') X.xe s
def mergeK (kvs more : List (Key × V)) : List (Key × V) := more.foldl (fun acc kv => putK acc kv.1 kv.2) kvs
/-- {k: v, ..} with keys ints and texts; the new dict stands empty while the pairs are made -/
def tDisp (trs : List (TE × TE)) : TE := fun σ H Q => ∀ p, H p = none → tPairs trs σ (upd H p (.dK [])) fun ps H2 => H2 p = some (.dK []) ∧ ∃ kvs : List (Key × V), ps = kvs.map (fun kv => (kV kv.1, kv.2)) ∧ kvs.length ≤ 15 ∧ Q (.ref p) (upd H2 p (.dK (mergeK [] kvs)))
/-! ### methods -/
/-- a method call o.m(e) of a built-in, with one argument: what must be seen of the text -/
structure M1 (X : Cx) (o : Expr) (m : Str) (apos : Pos) (e : Expr) (cpos : Pos) : Prop where
  base : attributeBase o m X.env (eval o X.env) = eval o X.env
  few : ((backTo cpos (starEach [e] X.env)).all (fun x => !x.1) && (backToKw cpos (keywordEach [] X.env)).all (fun x => x.1.isSome)
    && decide (([e] : List Expr).length + ([] : List Keyword).length + (if ([] : List Keyword).isEmpty then 0 else 1) < 30)) = true
  line : (apos.endLine == cpos.line) = true
  trees : backTo cpos (starEach [e] X.env) = [(false, eval e X.env)]
structure M2 (X : Cx) (o : Expr) (m : Str) (apos : Pos) (e f : Expr) (cpos : Pos) : Prop where
  base : attributeBase o m X.env (eval o X.env) = eval o X.env
  few : ((backTo cpos (starEach [e, f] X.env)).all (fun x => !x.1) && (backToKw cpos (keywordEach [] X.env)).all (fun x => x.1.isSome)
    && decide (([e, f] : List Expr).length + ([] : List Keyword).length + (if ([] : List Keyword).isEmpty then 0 else 1) < 30)) = true
  line : (apos.endLine == cpos.line) = true
  trees : backTo cpos (starEach [e, f] X.env) = [(false, eval e X.env), (false, eval f X.env)]

/-- a is a dict, whatever its keys -/
def IsD (H : Hp) (a : Addr) : Prop := (∃ kvs, Rd H a (.dK kvs)) ∨ ∃ kvs, Rd H a (.dT kvs)
section
variable {X : Cx} {pins : List (Addr × Obj)} {σ : St} {H : Hp} {s : Shared} {a : Addr} {y d : V} {u r : Value} {o : Option V} {A : Around} {E : Value → Shared → Prop}
end

def tDGet1 (td ty : TE) : TE := fun σ H Q => td σ H fun x H1 => ∃ a, x = .ref a ∧ IsD H1 a ∧ ty σ H1 fun y H2 => ∃ o, DGet H2 a y o ∧ Q (o.getD .non) H2
def tDGet2 (td ty tx : TE) : TE := fun σ H Q => td σ H fun x H1 => ∃ a, x = .ref a ∧ IsD H1 a ∧ ty σ H1 fun y H2 => tx σ H2 fun z H3 => ∃ o, DGet H3 a y o ∧ Q (o.getD z) H3
/-- d.pop(k): there; d.pop(k, x): there or not -/
def tDPop1 (td ty : TE) : TE := fun σ H Q => td σ H fun x H1 => ∃ a, x = .ref a ∧ IsD H1 a ∧ ty σ H1 fun y H2 => ∃ kvs k v, H2 a = some (.dK kvs) ∧ y = kV k ∧ valV kvs k = some v ∧ Q v (upd H2 a (.dK (dropK kvs k)))
def tDPop2 (td ty tx : TE) : TE := fun σ H Q => td σ H fun x H1 => ∃ a, x = .ref a ∧ IsD H1 a ∧ ty σ H1 fun y H2 => tx σ H2 fun z H3 => ∃ kvs k, H3 a = some (.dK kvs) ∧ y = kV k ∧
  (∀ v, valV kvs k = some v → Q v (upd H3 a (.dK (dropK kvs k)))) ∧ (valV kvs k = none → Q z H3)
section
variable {X : Cx} {o e f : Expr} {apos cpos : Pos} {td ty tx : TE}
end

/-! ### dict(d): a copy -/
section
variable {X : Cx} {pins : List (Addr × Obj)} {σ : St} {H : Hp} {s : Shared} {a : Addr} {kvs : List (Key × V)} {A : Around} {E : Value → Shared → Prop}
end


section
variable {X : Cx} {pins : List (Addr × Obj)} {σ : St} {H : Hp} {s : Shared} {a : Addr} {y : V} {u : Value} {A : Around} {E : Value → Shared → Prop}
end
end L2

namespace L2
open PySem PySem.Spec PyProof.Rows
/-! ### sorted -/
theorem strsAre_of {ss : List Str} : ∀ {us : List Value}, Vals (ss.map V.str) us → StrsAre us ss := by
  induction ss with
  | nil => intro us r; rw [List.map_nil] at r; cases r; exact .nil
  | cons n ns ih =>
    intro us r
    rw [List.map_cons] at r
    cases r with
    | cons r1 r2 =>
      obtain ⟨t, rfl⟩ := r1
      exact .cons _ _ (ih r2)
theorem vals_of_strs : ∀ {us : List Value} {ss : List Str}, StrsAre us ss → Vals (ss.map V.str) us
  | _, _, .nil => .nil
  | _, _, .cons _ _ h => .cons ⟨_, rfl⟩ (vals_of_strs h)
theorem lst_ok {P : Program} {w : World} {H : Hp} {h : Heap} {a : Addr} {xs : List V} {its : List Value} {e : Nat} (hv : Vals xs its) (hz : xs.length ≤ sizeLine) (ho : h.get? a = some (seqObj "list" its.toArray e)) : ObjOk P w H h a (.lst xs) := ⟨hz, its, e, hv, ho⟩
section
variable {X : Cx}
def rSortS (K : PySem.W.Frag) : List V → Hp → VK → Prop := fun xs H Q => ∃ a, ∃ ss : List Str, xs = [.ref a] ∧ SqL K H a (ss.map V.str) ∧ ss.length < 64 ∧ ∀ (p : Addr) (ss' : List Str), ss'.Perm ss → sortedS ss' = true → H p = none → Q (.ref p) (upd H p (.lst (ss'.map V.str)))
theorem call_sortS : CallR X (.builtin "sorted") (rSortS X.K) := by
  intro pins s σ H xs us Q I r h
  obtain ⟨a, ss, rfl, hq, h64, q⟩ := h
  obtain ⟨u, rfl, rx⟩ := vals1 r
  cases rx
  obtain ⟨its, r', pl, hz⟩ := I.list hq
  have hl := r'.length
  rw [List.length_map] at hl
  refine sorted_strs (pl.isList) (strsAre_of r') (by omega) fun out ss' a1 a2 a3 => ?_
  obtain ⟨e, he⟩ := sortedAll_at s.heap its out
  refine ⟨.ref (s.heap.objs.size + 1), _, I.laid (a := s.heap.objs.size + 1) (o := .lst (ss'.map V.str)) (t' := s.toks) (fun _ _ => sortedAll_old) (Nat.le_succ _) (lst_ok (its := out.toList) (e := e) (vals_of_strs a1) ?_ (by rw [Array.toArray_toList]; exact he)), rfl, q _ ss' a2 a3 (I.hok.fresh (Nat.le_succ _))⟩
  rw [List.length_map, a2.length_eq]
  exact sz1000 (by omega)
def rSortI (K : PySem.W.Frag) : List V → Hp → VK → Prop := fun xs H Q => ∃ a, ∃ ns : List Int, xs = [.ref a] ∧ SqL K H a (ns.map V.int) ∧ ns.length < 64 ∧ ∀ (p : Addr) (ns' : List Int), ns'.Perm ns → ns'.Pairwise (· ≤ ·) → H p = none → Q (.ref p) (upd H p (.lst (ns'.map V.int)))
def rSortDS : List V → Hp → VK → Prop := fun xs H Q => ∃ a kvs, ∃ ss : List Str, xs = [.ref a] ∧ H a = some (.dK kvs) ∧ kvs.map (·.1) = ss.map Sum.inr ∧ kvs.length < 64 ∧ ∀ (p : Addr) (ss' : List Str), ss'.Perm ss → sortedS ss' = true → H p = none → Q (.ref p) (upd H p (.lst (ss'.map V.str)))
def rSortDI : List V → Hp → VK → Prop := fun xs H Q => ∃ a kvs, ∃ ns : List Int, xs = [.ref a] ∧ H a = some (.dK kvs) ∧ kvs.map (·.1) = ns.map Sum.inl ∧ kvs.length < 64 ∧ ∀ (p : Addr) (ns' : List Int), ns'.Perm ns → ns'.Pairwise (· ≤ ·) → H p = none → Q (.ref p) (upd H p (.lst (ns'.map V.int)))
end
end L2

namespace L2
open PySem PySem.Spec PyProof.Rows
variable {X : Cx}
/-! ### xs[::-1] of a list -/
def tRev (K : PySem.W.Frag) (te : TE) (tk : TO) : TE := fun σ H Q => te σ H fun x H1 => tk σ H1 fun st H2 => st = some (-1) ∧ ∃ a xs, x = .ref a ∧ SqL K H2 a xs ∧ ∀ p, H2 p = none → Q (.ref p) (upd H2 p (.lst xs.reverse))
/-! ### list(range(a, b)) -/
def tListRng (ta : TA) : TE := fun σ H Q => ta σ H fun vs H1 => ∃ i j : Int, vs = [.int i, .int j] ∧ (-(2 ^ 62) ≤ i ∧ i < 2 ^ 62 ∧ -(2 ^ 62) ≤ j ∧ j < 2 ^ 62) ∧ (j - i).toNat ≤ 1000 ∧ ∀ p, H1 p = none → Q (.ref p) (upd H1 p (.lst (rngV i (j - i).toNat)))
/-! ### list(d.values()) -/
def tListVals (td : TE) : TE := fun σ H Q => td σ H fun x H1 => ∃ a kvs, x = .ref a ∧ H1 a = some (.dK kvs) ∧ ∀ p, H1 p = none → Q (.ref p) (upd H1 p (.lst (kvs.map (·.2))))
end L2

namespace L2
open PySem PySem.Spec PyProof.Rows
/-- the i-th items of a tuple and of a list, in a new tuple -/
def Itz2 (K : PySem.W.Frag) (a b : Addr) : It :=
  ⟨fun i H => ∃ xs ys, SqT K H a xs ∧ SqT K H b ys ∧ i < xs.length ∧ i < ys.length,
   fun i H v H' => ∃ T, H T = none ∧ v = .ref T ∧ ∀ xs ys, SqT K H a xs → SqT K H b ys → ∃ x y, xs[i]? = some x ∧ ys[i]? = some y ∧ H' = upd H T (.tup [x, y]),
   fun i H => ∃ xs ys, SqT K H a xs ∧ SqT K H b ys ∧ (i = xs.length ∨ (i < xs.length ∧ i = ys.length))⟩
/-- a zip's objects, laid one behind another from n on -/
def ZipSt2 (n a b : Nat) (i : Nat) (h : Heap) : Prop := IsZip h (n + 4) (n + 2) (n + 3) .none ∧ IsPair h (n + 2) (.ref n) (.ref (n + 1)) ∧ (∃ x y, IsPair h (n + 3) x y) ∧ h.IsTupleIter n a i ∧ h.IsTupleIter (n + 1) b i
abbrev yo1 (h : Heap) (a : Addr) : Heap := h.push { cls := .type "tuple_iterator", data := .fields #[.ref a, .int 0 0] }
abbrev yo2 (h : Heap) (a b : Addr) : Heap := (yo1 h a).push { cls := .type "tuple_iterator", data := .fields #[.ref b, .int 0 0] }
abbrev yo3 (h : Heap) (a b : Addr) : Heap := (yo2 h a b).push { cls := .type "tuple", data := .seq #[.ref h.objs.size, .ref (yo1 h a).objs.size] }
abbrev yo4 (h : Heap) (a b : Addr) : Heap := (yo3 h a b).push { cls := .type "tuple", data := .seq #[.none, .none] }
abbrev yo5 (h : Heap) (a b : Addr) : Heap := (yo4 h a b).push { cls := .type "zip", data := .fields #[.none, .bool false, .bool false, .ref (yo2 h a b).objs.size, .ref (yo3 h a b).objs.size] }
def iZip2 (K : PySem.W.Frag) (ta : TA) : TI := fun σ H R => ta σ H fun vs H1 => ∃ a b, vs = [.ref a, .ref b] ∧ (∃ xs, SqT K H1 a xs) ∧ (∃ ys, SqT K H1 b ys) ∧ R (Itz2 K a b) H1
end L2

namespace L2
open PySem PySem.Spec PyProof.Rows
variable {X : Cx}
/-! ### list(d): the keys of a dict, texts -/
def rListD : List V → Hp → VK → Prop := fun xs H Q => ∃ a kvs, ∃ ss : List Str, xs = [.ref a] ∧ H a = some (.dK kvs) ∧ kvs.map (·.1) = ss.map Sum.inr ∧ ∀ p, H p = none → Q (.ref p) (upd H p (.lst (ss.map V.str)))
/-! ### list(range(a, b, c)) -/
def tListRng3 (ta : TA) : TE := fun σ H Q => ta σ H fun vs H1 => ∃ i j c : Int, vs = [.int i, .int j, .int c] ∧ (-(2 ^ 20) ≤ i ∧ i < 2 ^ 20 ∧ -(2 ^ 20) ≤ j ∧ j < 2 ^ 20 ∧ 1 ≤ c ∧ c < 2 ^ 20) ∧ (j - i) / c ≤ 900 ∧
  ∀ p (ms : List Int), (∀ x ∈ ms, i ≤ x ∧ x < j) → (ms.length : Int) ≤ max 0 ((j - i - 1) / c + 1) → H1 p = none → Q (.ref p) (upd H1 p (.lst (ms.map V.int)))
theorem size_pos {i j c : Int} (h : 1 ≤ c) : Builtin.Range.rangeSize i j c = if i < j then (j - i - 1) / c + 1 else 0 := by
  unfold Builtin.Range.rangeSize
  rw [if_pos (by omega)]
end L2

namespace L2
open PySem PySem.Spec PyProof.Rows
variable {X : Cx}
/-! ### a dict walked: it is held still from then on -/
/-- the keys of a dict that is held still -/
def Itd (d : Addr) (ob : Obj) (kvs : List (Key × V)) : It :=
  ⟨fun i H => H d = some (.frz ob (.dK kvs)) ∧ i < kvs.length, fun i H v H' => H' = H ∧ ∃ kv, kvs[i]? = some kv ∧ v = kV kv.1, fun i H => H d = some (.frz ob (.dK kvs)) ∧ kvs.length ≤ i⟩
def iDict (tl : TE) : TI := fun σ H R => tl σ H fun x H1 => ∃ d kvs, x = .ref d ∧ H1 d = some (.dK kvs) ∧ ∀ ob, R (Itd d ob kvs) (upd H1 d (.frz ob (.dK kvs)))
end L2

namespace L2
open PySem PySem.Spec PyProof.Rows PySem.W
/-! ### try, with the names kept -/
/-- an exception of a callee that is called while the names are σ -/
def PassesAt (CX : CXT) (X : Cx) (σ : St) (E : XK) : Prop := ∀ (pins : List (Addr × Obj)) (H : Hp) (s : Shared) (e : Value) (s' : Shared), Inv X pins σ H s → CX X.stack H s E e s' → X.xe e s'
section
variable {X : Cx}
/-- as tTry, of a body that changes no name: the others stay -/
def tTryS (K : Frag) (i j : Nat) (Dc : Addr) (tb : St → XK → TS) : TS := fun D σ H => tb σ (fun cls dd H' => ∃ C, cls = .ref C ∧ ExK K C ∧ subIn K (.ref C) (.ref Dc) = some true ∧ ∀ a, H' a = none → D.nx (((σ.set i (some (.ref a))).set j (some (.ref a))).set i none) (upd H' a (excD a C dd))) D σ H
end
end L2
namespace L2
open PySem PySem.Spec PyProof.Rows
variable {X : Cx}
/-! ### a dict that is held still, read -/
def rSortDSR : List V → Hp → VK → Prop := fun xs H Q => ∃ a kvs, ∃ ss : List Str, xs = [.ref a] ∧ Rd H a (.dK kvs) ∧ kvs.map (·.1) = ss.map Sum.inr ∧ kvs.length < 64 ∧ ∀ (p : Addr) (ss' : List Str), ss'.Perm ss → sortedS ss' = true → H p = none → Q (.ref p) (upd H p (.lst (ss'.map V.str)))
def tListValsR (td : TE) : TE := fun σ H Q => td σ H fun x H1 => ∃ a kvs, x = .ref a ∧ Rd H1 a (.dK kvs) ∧ ∀ p, H1 p = none → Q (.ref p) (upd H1 p (.lst (kvs.map (·.2))))
end L2

namespace L2
open PySem PySem.Spec PyProof.Rows
/-! ### heaps that grow, in which dicts may come to be held still -/
def Fz (H H' : Hp) : Prop := ∀ b o, H b = some o → H' b = some o ∨ ∃ ob kvs, o = .dK kvs ∧ H' b = some (.frz ob (.dK kvs))
/-- d is held still, all else is as it was -/
def Hld (d : Addr) (ob : Obj) (kvs : List (Key × V)) (H H' : Hp) : Prop := H' d = some (.frz ob (.dK kvs)) ∧ (∀ b, b ≠ d → H' b = H b) ∧ (H d = some (.dK kvs) ∨ H d = some (.frz ob (.dK kvs)))
section
variable {X : Cx}
/-- a dict walked that may be held still already -/
def iDictR (tl : TE) : TI := fun σ H R => tl σ H fun x H1 => ∃ d kvs, x = .ref d ∧ Rd H1 d (.dK kvs) ∧ ∀ ob H2, Hld d ob kvs H1 H2 → R (Itd d ob kvs) H2
/-! ### dict(d), isinstance(d, dict) -/
def rDictD : List V → Hp → VK → Prop := fun xs H Q => ∃ a kvs, xs = [.ref a] ∧ Rd H a (.dK kvs) ∧ ∀ p, H p = none → Q (.ref p) (upd H p (.dK kvs))
/-! ### == and != of dicts that tell the same -/
/-- each value of the one is told by the other -/
def DDeq (K : PySem.W.Frag) (H : Hp) (ka kb : List (Key × V)) : Prop := ka.length = kb.length ∧ ∀ kv ∈ ka, ∃ v' d, valV kb kv.1 = some v' ∧ Dv K H 30 kv.2 d ∧ Dv K H 30 v' d
def rNeDD (K : PySem.W.Frag) : R2 := fun x y H Q => ∃ a b ka kb, x = .ref a ∧ y = .ref b ∧ Rd H a (.dK ka) ∧ Rd H b (.dK kb) ∧ DDeq K H ka kb ∧ Q (.bl false) H
def rEqDD (K : PySem.W.Frag) : R2 := fun x y H Q => ∃ a b ka kb, x = .ref a ∧ y = .ref b ∧ Rd H a (.dK ka) ∧ Rd H b (.dK kb) ∧ DDeq K H ka kb ∧ Q (.bl true) H
end
end L2

namespace L2
open PySem PySem.Spec PyProof.Rows
/-! ### != of two lists of dicts that tell the same, at one program -/
/-- the two are equal, at this program -/
def EqIn (P : Program) (w : World) (A : Around) (s : Shared) (y x : Value) : Prop := ∀ (E : Value → Shared → Prop) (Q : Bool → Shared → Prop), Q true s → wpAny (model P w) A (eqBool y x) Q E s
section
open AutoSeq1 MeetsSeq MeetsSeq2 MeetsSeq3 SeqAt
variable {P : Program} {w : World}
end
section
variable {X : Cx}
def rNeLD (K : PySem.W.Frag) : R2 := fun x y H Q => ∃ a b xs ys, x = .ref a ∧ y = .ref b ∧ SqL K H a xs ∧ SqL K H b ys ∧ xs.length = ys.length ∧
  (∀ (j : Nat) x y, xs[j]? = some x → ys[j]? = some y → ∃ da db ka kb, x = .ref da ∧ y = .ref db ∧ Rd H da (.dK ka) ∧ Rd H db (.dK kb) ∧ DDeq K H ka kb) ∧ Q (.bl false) H
end
end L2

namespace HT
open PySem PyProof.Rows
/-- t < u of tuples of texts -/
def lexLtS : List Str → List Str → Bool
  | [], [] => false
  | [], _ :: _ => true
  | _ :: _, [] => false
  | x :: xs, y :: ys => if x = y then lexLtS xs ys else decide (x.cps.toList < y.cps.toList)
theorem lexLtS_cons (x y : Str) (xs ys : List Str) : lexLtS (x :: xs) (y :: ys) = if x = y then lexLtS xs ys else decide (x.cps.toList < y.cps.toList) := rfl
section
open PySem.SeqAt
open PySem.AutoSeq1 (wpAny_loadPart')
open PySem.MeetsSeq PySem.MeetsSeq2 PySem.MeetsSeq3

end

section
variable {prog : Program} {w : World} {A : Around} {E : Value → Shared → Prop} {s : Shared}

end
end HT
namespace L2
open PySem PySem.Spec PyProof.Rows
section
variable {X : Cx}
def rLtTS (K : PySem.W.Frag) : R2 := fun x y H Q => ∃ a b ns ms, x = .ref a ∧ y = .ref b ∧ SqT K H a (ns.map V.str) ∧ SqT K H b (ms.map V.str) ∧ Q (.bl (HT.lexLtS ns ms)) H
end
end L2

namespace HT
open PySem PySem.Spec PyProof.Rows
section
variable {prog : Program} {w : World} {A : Around} {E : Value → Shared → Prop} {s : Shared}
end
end HT
namespace L2
open PySem PySem.Spec PyProof.Rows
section
variable {X : Cx}
/-- () + u -/
def rCatT0 (K : PySem.W.Frag) : R2 := fun x y H Q => ∃ a b ys, x = .ref a ∧ y = .ref b ∧ SqT K H a [] ∧ SqT K H b ys ∧ Q (.ref b) H
/-- t + u, whatever t is -/
def rCatTA (K : PySem.W.Frag) : R2 := fun x y H Q => rCatT0 K x y H Q ∨ rCatT K x y H Q
/-- t * k, t not empty, k from 2 on -/
def rRepT (K : PySem.W.Frag) : R2 := fun x y H Q => ∃ a k xs, x = .ref a ∧ y = .int k ∧ SqT K H a xs ∧ xs ≠ [] ∧ 2 ≤ k ∧ k ≤ 1000 ∧ xs.length ≤ 1000 ∧ ∀ p, H p = none → Q (.ref p) (upd H p (.tup (List.replicate k.toNat xs).flatten))
end
end L2

namespace L2
open PySem PySem.Spec PyProof.Rows
/-! ### the statements of a def under names: what follows stays small -/
section
variable {D : Ends} {σ : L2.St} {H : Hp}
end
end L2

namespace L2
open PySem PySem.Spec PyProof.Rows PySem.W
section
variable {X : Cx}
end
end L2
namespace TM
open PySem PySem.Spec PyProof.Rows PySem.W
/-- j unlike things of a list: it is that long -/
theorem pigeon {α : Type} [BEq α] [LawfulBEq α] (f : Nat → α) : ∀ (j : Nat) (l : List α), (∀ i, i < j → f i ∈ l) → (∀ i k, i < j → k < j → f i = f k → i = k) → j ≤ l.length := by
  intro j
  induction j with
  | zero =>
    intro l _ _
    exact Nat.zero_le _
  | succ j ih =>
    intro l hm hi
    have h1 := hm j (Nat.lt_succ_self _)
    have := ih (l.erase (f j)) (fun i hij => (List.mem_erase_of_ne (fun e => by
      have := hi i j (by omega) (by omega) e
      omega)).mpr (hm i (by omega))) (fun i k a b e => hi i k (by omega) (by omega) e)
    rw [List.length_erase_of_mem h1] at this
    have : 0 < l.length := List.length_pos_of_mem h1
    omega
/-- the letter j places on, round the 26 -/
def rd (c j : Nat) : Nat := 97 + (c - 97 + j) % 26
abbrev LET : Str := "abcdefghijklmnopqrstuvwxyz"
theorem at_let {j : Nat} (h : j < 26) : (cps LET)[j]? = some (97 + j) := by
  have all : ∀ k : Fin 26, (cps LET)[k.val]? = some (97 + k.val) := by decide +kernel
  exact all ⟨j, h⟩
end TM

namespace GM
/-- t over b, in lowest terms, is N over M -/
structure Fr (M t b N : Int) : Prop where
  am : Amt t b
  e : t * M = N * b
theorem Fr.of {M t b : Int} (am : Amt t b) (d : b ∣ M) : Fr M t b (t * (M / b)) := ⟨am, by rw [Int.mul_assoc, Int.ediv_mul_cancel d]⟩
theorem Fr.zero {M : Int} : Fr M 0 1 0 := ⟨amt_one (by decide), by simp⟩
theorem Fr.plus {M t1 b1 N1 t2 b2 N2 : Int} (h1 : Fr M t1 b1 N1) (h2 : Fr M t2 b2 N2) : Fr M ((t1 * b2 + t2 * b1) / G (t1 * b2 + t2 * b1) (b1 * b2)) (b1 * b2 / G (t1 * b2 + t2 * b1) (b1 * b2)) (N1 + N2) := by
  have a1 := h1.am.b1
  have a2 := h2.am.b1
  have n1 := Int.mul_nonneg h1.am.t0 (show 0 ≤ b2 by omega)
  have n2 := Int.mul_nonneg h2.am.t0 (show 0 ≤ b1 by omega)
  have hb : 1 ≤ b1 * b2 := by
    have := Int.mul_le_mul a1 a2 (by decide) (by omega)
    omega
  refine ⟨low_amt (by omega) hb, ?_⟩
  have crs := low_cross (t1 * b2 + t2 * b1) (b1 * b2)
  generalize (t1 * b2 + t2 * b1) / G (t1 * b2 + t2 * b1) (b1 * b2) = x at *
  generalize b1 * b2 / G (t1 * b2 + t2 * b1) (b1 * b2) = y at *
  refine Int.eq_of_mul_eq_mul_right (show b1 * b2 ≠ 0 by omega) ?_
  calc x * M * (b1 * b2) = (x * (b1 * b2)) * M := by rw [Int.mul_assoc, Int.mul_comm M, ← Int.mul_assoc]
    _ = ((t1 * b2 + t2 * b1) * y) * M := by rw [crs]
    _ = ((t1 * M) * b2 + (t2 * M) * b1) * y := by
      rw [Int.mul_right_comm, Int.add_mul, Int.mul_right_comm t1, Int.mul_right_comm t2]
    _ = ((N1 * b1) * b2 + (N2 * b2) * b1) * y := by rw [h1.e, h2.e]
    _ = (N1 + N2) * y * (b1 * b2) := by
      rw [Int.mul_right_comm (N1 + N2), Int.add_mul N1, Int.mul_assoc N1, Int.mul_assoc N2, Int.mul_comm b2 b1]
theorem Fr.nonneg {M t b N : Int} (hM : 0 < M) (h : Fr M t b N) : 0 ≤ N := by
  have a1 := h.am.b1
  have n1 := Int.mul_nonneg h.am.t0 (show 0 ≤ M by omega)
  rw [h.e] at n1
  by_cases z : 0 ≤ N
  · exact z
  · have := Int.mul_neg_of_neg_of_pos (show N < 0 by omega) (show 0 < b by omega)
    omega
theorem Fr.dvd {M t b N : Int} (h : Fr M t b N) : b ∣ M := by
  have d : b ∣ M * t := ⟨N, by rw [Int.mul_comm M, h.e, Int.mul_comm]⟩
  have g : Int.gcd b t = 1 := by
    have := h.am.g
    unfold G at this
    rw [Int.gcd_comm]
    omega
  have d' : b.natAbs ∣ M.natAbs * t.natAbs := by
    rw [← Int.natAbs_mul]
    exact Int.natAbs_dvd_natAbs.mpr d
  have c : Nat.Coprime b.natAbs t.natAbs := g
  exact Int.natAbs_dvd_natAbs.mp (c.dvd_of_dvd_mul_right d')
end GM

namespace K32
open PySem PySem.Spec PyProof.Rows L2 GM TM
def top (i : Nat) : Stmt := PySem.Challenge.pw_phialhouse_k32_phials_that_fit.main.body.getD i (.Pass ⟨0, 0, 0, 0⟩)
abbrev sGcd : Stmt := top 2
abbrev sLow : Stmt := top 3
abbrev sPlus : Stmt := top 4
abbrev sLess : Stmt := top 5
abbrev sWholeM : Stmt := top 7
abbrev sFit : Stmt := top 9
abbrev sPairIn : Stmt := top 10
abbrev sCell : Stmt := top 12
abbrev sMixed : Stmt := top 13
abbrev sLowest : Stmt := top 14
abbrev sAdd : Stmt := top 15
abbrev sTake : Stmt := top 16
abbrev sBy : Stmt := top 17
abbrev sUnder : Stmt := top 18
abbrev sDigit : Stmt := top 19
abbrev sNames : Stmt := top 20
abbrev sWares : Stmt := top 21
abbrev sMuch : Stmt := top 22
abbrev sApart : Stmt := top 23
abbrev sFree : Stmt := top 24
abbrev sBench : Stmt := top 25
abbrev sPhial : Stmt := top 26
abbrev sFreePh : Stmt := top 27
abbrev sPairL : Stmt := top 28
abbrev sIsFit : Stmt := top 29
abbrev sFitsSo : Stmt := top 30
abbrev sLaw : Stmt := top 31
structure Txt (mg : Str → Option Value) : Prop where
  isi : mg "isinstance" = none
  bool' : mg "bool" = none
  tup' : mg "tuple" = none
  len : mg "len" = none
  range : mg "range" = none
  min' : mg "min" = none
  max' : mg "max" = none
  abs' : mg "abs" = none
  list' : mg "list" = none
  sorted' : mg "sorted" = none
  zip' : mg "zip" = none
  set' : mg "set" = none
def spGcd : Sp := fun vs H Q _ => ∃ a b : Int, vs = [.int a, .int b] ∧ 0 ≤ a ∧ 0 ≤ b ∧ Q (.int (G a b)) H
def spCell (K : PySem.W.Frag) : Sp := fun vs H Q _ => ∃ (a : Addr) (ns : List Int) (k : Int), vs = [.ref a, .int k] ∧ SqL K H a (ns.map V.int) ∧ 0 ≤ k ∧ ∀ c : Int, Q (.int c) H
structure Wr (x : Str) : Prop where
  l1 : 1 ≤ x.length
  l8 : x.length ≤ 8
  lt : ∀ c ∈ cps x, 97 ≤ c ∧ c ≤ 122
instance (x : Str) : Decidable (Wr x) := decidable_of_iff ((1 ≤ x.length ∧ x.length ≤ 8) ∧ ∀ c ∈ cps x, 97 ≤ c ∧ c ≤ 122) ⟨fun h => ⟨h.1.1, h.1.2, h.2⟩, fun h => ⟨⟨h.l1, h.l8⟩, h.lt⟩⟩
instance (x : Str) : Decidable (Wr x) := decidable_of_iff ((1 ≤ x.length ∧ x.length ≤ 8) ∧ ∀ c ∈ cps x, 97 ≤ c ∧ c ≤ 122) ⟨fun h => ⟨h.1.1, h.1.2, h.2⟩, fun h => ⟨⟨h.l1, h.l8⟩, h.lt⟩⟩
abbrev ltP (p q : Str × Str) : Prop := HT.lexLtS [p.1, p.2] [q.1, q.2] = true
def PsL (K : PySem.W.Frag) (H : Hp) (us : List V) (ps : List (Str × Str)) : Prop := us.length = ps.length ∧ ∀ (i : Nat) u p, us[i]? = some u → ps[i]? = some p → ∃ q, u = .ref q ∧ SqT K H q [.str p.1, .str p.2]
def Rising (ps : List (Str × Str)) : Prop := ∀ (i : Nat) p q, ps[i]? = some p → ps[i + 1]? = some q → ltP p q
section
variable {P : Program} {w : World} {K : PySem.W.Frag} {mg : Str → Option Value} {base : Heap}
theorem gcd_turn {a0 b0 a b : Int} (e : G a b = G a0 b0) (hb : 0 ≤ b) (h : ¬ b = 0) : 0 ≤ a % b ∧ G b (a % b) = G a0 b0 := ⟨Int.emod_nonneg a h, by rw [G_step]; exact e⟩
theorem scGcd : FnScope ["one", "other", "rest"] ["one", "other"] (defScope sGcd) := ⟨rfl, rfl, rfl, by decide +kernel, rfl, by decide +kernel, by decide +kernel⟩
theorem ok_gcd {f : Addr} {fd : FuncData} (F : Fun K "common_divisor" "common_divisor" sGcd f fd) : FnOk P w K mg base CX0 1 f fd ["one", "other"] spGcd := by
  refine F.ok scGcd (fun vs H Q E h => ?_) (fun cdv A outer s H vs Q E hr h => ?_)
  · obtain ⟨a, b, rfl, _⟩ := h
    rfl
  · obtain ⟨a, b, rfl, ha, hb, k⟩ := h
    refine ⟨_, pss_cons (ps_while PassesOwn.never (pt_cmpR op_ne (pv 1) pe_int (nomark _))
      (pss_cons (ps_set (i := 2) scGcd.nd rfl (Or.inl rfl) (pe_op op_mod (pv 0) (pv 1)))
      (pss_cons (ps_set (i := 0) scGcd.nd rfl (Or.inl rfl) (pv 1))
      (pss_one (ps_set (i := 1) scGcd.nd rfl (Or.inl rfl) (pv 2))))))
      (pss_one (ps_ret (pv 0))), ?_⟩
    refine while_by (fun σ H' => H' = H ∧ ∃ (x y : Int) (r : Option V), σ = [some (.int x), some (.int y), r] ∧ 0 ≤ x ∧ 0 ≤ y ∧ G x y = G a b) (fun σ _ => match σ with | [_, some (.int y), _] => y.toNat | _ => 0) ⟨rfl, a, b, none, rfl, ha, hb, rfl⟩ ?_ ?_
    · rintro σ H' ⟨rfl, x, y, r, rfl, hx, hy, e⟩
      refine ⟨_, rfl, rfl, _, rfl, ?_⟩
      refine ite2 (fun hc => ?_) (fun hc => ?_)
      · have hy0 : ¬ y = 0 := by
          intro z
          subst z
          simp at hc
        have t := gcd_turn e hy hy0
        refine ⟨_, rfl, _, rfl, _, _, rfl, rfl, (by show 0 < y; omega), _, rfl, _, rfl, ⟨rfl, y, x % y, _, rfl, hy, t.1, t.2⟩, ?_⟩
        have := Int.emod_lt_of_pos x (show 0 < y by omega)
        have := t.1
        show (x % y).toNat < y.toNat
        omega
      · have hy0 : y = 0 := by
          by_cases z : y = 0
          · exact z
          · exfalso
            apply hc
            simp [z]
        subst hy0
        rw [G_zero hx] at e
        exact ⟨_, rfl, by rw [e]; exact k⟩
    · rintro σ H' Q1 Q2 hq ⟨v, e, z, q⟩
      exact ⟨v, e, z, by obtain ⟨k, e, q⟩ := q; exact ⟨k, e, hq _ _ q⟩⟩
theorem b6 {n : Nat} {x : Int} (h : Bt n x) (hn : n ≤ 1000000 := by decide) : Bt 1000000 x := h.mono hn
theorem bt_lt (n : Nat) {x c : Int} (h0 : 0 ≤ x) (h : x < c) (hc : c ≤ ((2 ^ n : Nat) : Int) := by decide +kernel) : Bt n x := by
  show x.natAbs < 2 ^ n
  omega
theorem emod_in (x : Int) {m : Int} (h : 0 < m) : 0 ≤ x % m ∧ x % m < m := ⟨Int.emod_nonneg x (by omega), Int.emod_lt_of_pos x h⟩
theorem bt_bool : bootBuiltins "bool" = some (.type "bool") := by decide +kernel
theorem bt_tuple : bootBuiltins "tuple" = some (.type "tuple") := by decide +kernel
theorem bl {c : Int} (h0 : 0 ≤ c := by decide) (h : c < 18446744073709551616 := by decide) : Bt 1000000 c := b6 (bt_lt 64 h0 h)
theorem bk {c : Int} (h0 : 0 ≤ c := by decide) (h : c < 18446744073709551616 := by decide) : Bt 1000 c := (bt_lt 64 h0 h).mono (by decide)
theorem scCell : FnScope ["_law_script", "_law_k"] ["_law_script", "_law_k"] (defScope sCell) := ⟨rfl, rfl, rfl, by decide +kernel, rfl, by decide +kernel, by decide +kernel⟩
theorem ok_cell {f : Addr} {fd : FuncData} (F : Fun K "_law_cell_at" "_law_cell_at" sCell f fd) (T : Txt mg) : FnOk P w K mg base CX0 1 f fd ["_law_script", "_law_k"] (spCell K) := by
  refine F.ok scCell (fun vs H Q E h => ?_) (fun cdv A outer s H vs Q E hr h => ?_)
  · obtain ⟨_, _, _, rfl, _⟩ := h
    rfl
  · obtain ⟨a, ns, j, rfl, hS, h0, k⟩ := h
    refine ⟨_, (pss_cons (ps_if (pt_cmpR op_lt (pv 1) (pe_callB call_len_seq rfl T.len PySem.boot_len (pa_cons (pv 0) pa_nil)) (nomark _))
        (pss_one (ps_ret (pe_ix ix_list (pv 0) (pv 1) (fun _ _ => rfl))))
        pss_nil)
      (pss_one (ps_ret pe_int))), ?_⟩
    refine ⟨_, rfl, _, rfl, a, _, rfl, .inl hS, _, _, rfl, rfl, _, rfl, ite2 (fun hc => ?_) (fun _ => k _)⟩
    have hc' : j < ((ns.map V.int).length : Int) := of_decide_eq_true hc
    rw [List.length_map] at hc'
    obtain ⟨i, rfl⟩ := Int.eq_ofNat_of_zero_le h0
    obtain ⟨c, hc⟩ : ∃ c, ns[i]? = some c := ⟨_, List.getElem?_eq_getElem (show i < ns.length by omega)⟩
    exact ⟨_, rfl, _, rfl, a, _, (i : Int), .int c, rfl, rfl, hS, atI_nat (by rw [List.getElem?_map, hc]; rfl), k c⟩
theorem bt_abs : bootBuiltins "abs" = some (.builtin "abs") := by decide +kernel
theorem lenC (x : Str) : x.length = (cps x).length := by simp [Str.length, cps]
theorem lenA (x y : Str) : (x ++ y).length = x.length + y.length := by rw [lenC, cps_append', List.length_append, ← lenC, ← lenC]
theorem in_strs {x : Str} {ws : List Str} : inV (.str x) (ws.map V.str) = true ↔ x ∈ ws := by
  unfold inV
  rw [List.any_map, List.any_eq_true]
  constructor
  · rintro ⟨y, hy, e⟩
    have : y = x := by simpa [eqV] using e
    exact this ▸ hy
  · intro h
    exact ⟨x, h, by simp [eqV]⟩
theorem flat_strs (ws : List Str) : (ws.map V.str).all flatV = true := by
  rw [List.all_map, List.all_eq_true]
  intro x _
  rfl
theorem nodup_snoc {ws : List Str} {x : Str} (h : ws.Nodup) (n : x ∉ ws) : (ws ++ [x]).Nodup := by
  rw [List.nodup_append]
  refine ⟨h, by simp, fun y hy z hz e => ?_⟩
  rw [List.mem_singleton.mp hz] at e
  exact n (e ▸ hy)
theorem list_eq {α : Type} {ys l : List α} (hl : ys.length = l.length) (h : ∀ (i : Nat) x y, l[i]? = some x → ys[i]? = some y → y = x) : ys = l := by
  refine List.ext_getElem? fun i => ?_
  by_cases hi : i < l.length
  · have e1 := List.getElem?_eq_getElem hi
    have e2 : ys[i]? = some (ys[i]'(by omega)) := List.getElem?_eq_getElem (by omega)
    rw [e1, e2, h i _ _ e1 e2]
  · rw [List.getElem?_eq_none (by omega), List.getElem?_eq_none (by omega)]
end
end K32

namespace L2
open PySem PySem.Spec PyProof.Rows
/-! ### texts joined, str of an int or a text -/
/-- the text that join tells -/
def jn (sep : Str) : List Str → Str
  | [x] => x
  | l => Builtin.Str.glued sep l
def rJoin (K : PySem.W.Frag) : V → List V → Hp → VK → Prop := fun z vs H Q => ∃ sep a ss, z = .str sep ∧ vs = [.ref a] ∧ SqL K H a (ss.map V.str) ∧ sep.length ≤ 10 ∧ ss.length ≤ 100 ∧ (∀ x ∈ ss, x.length ≤ 1000) ∧ Q (.str (jn sep ss)) H
/-- for over a text's signs -/
theorem for_str {x : Str} {g : TG} {tb : TS} {D : Ends} {σ : St} {H : Hp} (Pv : Nat → St → Hp → Prop) (h0 : Pv 0 σ H)
    (hs : ∀ i c σ H, x.cps[i]? = some c → Pv i σ H → g (.str ⟨#[c]⟩) σ H fun σ2 H2 => tb { D with nx := Pv (i + 1), ct := Pv (i + 1), bk := D.nx } σ2 H2) (hd : ∀ σ H, Pv x.cps.size σ H → D.nx σ H) :
    ∃ W : Nat → Nat → St → Hp → Prop, (∃ m, W 0 m σ H) ∧ ∀ i m σ H, W i m σ H →
      ((Its x).stop i H ∧ D.nx σ H) ∨ ((Its x).go i H ∧ ∃ N : St → Hp → Prop, (∀ σ' H', N σ' H' → ∃ m', m' < m ∧ W (i + 1) m' σ' H') ∧ ∀ v H', (Its x).yld i H v H' → g v σ H' fun σ2 H2 => tb { D with nx := N, ct := N, bk := D.nx } σ2 H2) := by
  refine ⟨fun i m σ H => m = x.cps.size - i ∧ i ≤ x.cps.size ∧ Pv i σ H, ⟨x.cps.size, by simp, Nat.zero_le _, h0⟩, ?_⟩
  rintro i m σ H ⟨rfl, hi, p⟩
  by_cases hlt : i < x.cps.size
  · refine .inr ⟨⟨x.cps[i], Array.getElem?_eq_getElem hlt⟩, Pv (i + 1), fun σ' H' p' => ⟨x.cps.size - (i + 1), by omega, rfl, hlt, p'⟩, fun v H' y => ?_⟩
    obtain ⟨e, c, hc, rfl⟩ := y
    subst e
    exact hs i c σ _ hc p
  · have e : i = x.cps.size := by omega
    subst e
    exact .inl ⟨Array.getElem?_eq_none (Nat.le_refl _), hd σ H p⟩
section
variable {X : Cx}
/-- the text of an int or a text -/
def tx : V → Str
  | .int n => toString n
  | .str x => x
  | _ => Str.empty
def TxOk (v : V) : Prop := (∃ n : Nat, v = .int n ∧ n < 10 ^ 60) ∨ ∃ x, v = .str x ∧ x.length ≤ 100
end
end L2

namespace K32
open PySem PySem.Spec PyProof.Rows L2 GM TM
/-- all but the object at a has stayed -/
def SmB (a : Addr) (H H' : Hp) : Prop := ∀ b o, b ≠ a → H b = some o → H' b = some o
theorem SmB.refl {a : Addr} {H : Hp} : SmB a H H := fun _ _ _ h => h
theorem SmB.trans {a : Addr} {H H1 H2 : Hp} (h : SmB a H H1) (k : SmB a H1 H2) : SmB a H H2 := fun b o n e => k b o n (h b o n e)
theorem SmB.of {a : Addr} {H H' : Hp} (h : Same H H') : SmB a H H' := fun b o _ e => h b o e
theorem SmB.upd {a : Addr} {H : Hp} {o : HO} : SmB a H (upd H a o) := fun b u n e => by rw [upd_ne n]; exact e
theorem SmB.own {a p : Addr} {H H' : Hp} {o : HO} (h : SmB a H H') (n : H p = none) : SmB a H (L2.upd H' p o) := fun b u nb e => by
  have ne : b ≠ p := fun z => by rw [z, n] at e; cases e
  rw [upd_ne ne]
  exact h b u nb e
/-- what is left of a cell's digits -/
def Lf (H : Hp) (a : Addr) : Prop := ∃ n : Int, H a = some (.lst [.int n]) ∧ 0 ≤ n
theorem Lf.keep {H H' : Hp} {a : Addr} (h : Lf H a) (s : Same H H') : Lf H' a := by
  obtain ⟨n, e, r⟩ := h
  exact ⟨n, s _ _ e, r⟩
theorem Lf.there {H : Hp} {a b : Addr} (h : Lf H a) (n : H b = none) : b ≠ a := fun z => by
  obtain ⟨_, e, _⟩ := h
  rw [← z, n] at e
  cases e
theorem Lf.own {H : Hp} {a p : Addr} {o : HO} (h : Lf H a) (n : p ≠ a) : Lf (upd H p o) a := by
  obtain ⟨m, e, r⟩ := h
  exact ⟨m, by rw [upd_ne (Ne.symm n)]; exact e, r⟩
def spMixed : Sp := fun vs H Q _ => ∃ c k : Int, vs = [.int c, .int k] ∧ 0 ≤ k ∧ k ≤ 1000 ∧ ∀ n : Int, 0 ≤ n → n < 2147483647 → Q (.int n) H
def spLowest : Sp := fun vs H Q _ => ∃ t b : Int, vs = [.int t, .int b] ∧ 0 ≤ t ∧ 1 ≤ b ∧ Bt 9000 b ∧ ∀ p H', Same H H' → H p = none → H' p = some (.tup [.int (t / G t b), .int (b / G t b)]) → Q (.ref p) H'
def spDigit : Sp := fun vs H Q _ => ∃ (a : Addr) (m : Int), vs = [.ref a, .int m] ∧ Lf H a ∧ 1 ≤ m ∧ Bt 9000 m ∧ ∀ (d : Int) H', 0 ≤ d → d < m → SmB a H H' → Lf H' a → Q (.int d) H'
def spNames : Sp := fun vs H Q _ => ∃ a : Addr, vs = [.ref a] ∧ Lf H a ∧ ∀ (ws : List Str) p H', ws.length = 6 → ws.Nodup → (∀ x ∈ ws, Wr x) → SmB a H H' → H p = none → p ≠ a → H' p = some (.lst (ws.map V.str)) → Q (.ref p) H'
/-- a room: what is more than nought, in lowest terms -/
structure Rm (t b : Int) : Prop where
  t1 : 1 ≤ t
  b1 : 1 ≤ b
  g : G t b = 1
  st : Bt 100 t
  sb : Bt 100 b
def spMuch : Sp := fun vs H Q _ => ∃ n : Int, vs = [.int n] ∧ 0 ≤ n ∧ n < 2147483647 ∧ ∀ t b p H', Rm t b → Same H H' → H p = none → H' p = some (.tup [.int t, .int b]) → Q (.ref p) H'
theorem low_rm {t b : Int} (h0 : 1 ≤ t) (h1 : 1 ≤ b) (ht : Bt 100 t) (hb : Bt 100 b) : Rm (t / G t b) (b / G t b) := by
  have a := low_amt (t := t) (b := b) (by omega) h1
  have g := G_pos (a := t) (b := b) (by omega)
  have l := Int.le_of_dvd (by omega) (G_dvd_l t b)
  refine ⟨(Int.le_ediv_iff_mul_le g).mpr (by omega), (Int.le_ediv_iff_mul_le g).mpr (by have := G_le_r (a := t) (b := b) (by omega); omega), a.3, ht.le a.1 (Int.ediv_le_self _ (by omega)), hb.le (by have := a.2; omega) (Int.ediv_le_self _ (by omega))⟩
theorem low_small {t b : Int} (h1 : 1 ≤ b) (hs : Bt 9000 b) : 0 < G t b ∧ Bt 9000 (G t b) := by
  have p := G_pos (a := t) (b := b) (by omega)
  exact ⟨p, hs.le (by omega) (G_le_r (by omega))⟩
theorem b9 {c : Int} (h0 : 0 ≤ c := by decide) (h : c < 18446744073709551616 := by decide) : Bt 9000 c := (bt_lt 64 h0 h).mono (by decide)
theorem e18 : (10 : Int) ^ Int.toNat 18 = 1000000000000000000 := by decide +kernel
section
variable {P : Program} {w : World} {K : PySem.W.Frag} {mg : Str → Option Value} {base : Heap}
theorem scMixed : FnScope ["_law_cell", "_law_k"] ["_law_cell", "_law_k"] (defScope sMixed) := ⟨rfl, rfl, rfl, by decide +kernel, rfl, by decide +kernel, by decide +kernel⟩
theorem ok_mixed {f : Addr} {fd : FuncData} (F : Fun K "_law_mixed" "_law_mixed" sMixed f fd) : FnOk P w K mg base CX0 1 f fd ["_law_cell", "_law_k"] spMixed := by
  refine F.ok scMixed (fun vs H Q E h => ?_) (fun cdv A outer s H vs Q E hr h => ?_)
  · obtain ⟨_, _, rfl, _⟩ := h
    rfl
  · obtain ⟨c, k, rfl, k0, k1, q⟩ := h
    refine ⟨_, pss_one (ps_ret (pe_op op_mod (pe_op op_mulB (pe_op op_add (pe_op op_add (pe_op op_mod (pv 0) pe_int) (pe_op op_mulB (pv 1) (pv 1))) pe_int) pe_int) pe_int)), ?_⟩
    have c1 := emod_in c (m := 1000003) (by decide)
    have bk1 : Bt 32 k := bt_lt 32 (c := 1001) k0 (by omega)
    have b3 : Bt 66 (c % 1000003 + k * k + 1) := ((bt_lt 64 (c := 1000003) c1.1 c1.2).add (bk1.mul bk1)).add (bt_lt 65 (x := 1) (c := 2) (by decide) (by decide))
    refine ⟨_, rfl, _, _, rfl, rfl, (by show (0 : Int) < 1000003; decide), _, rfl, _, rfl, _, _, rfl, rfl, ⟨b6 bk1, b6 bk1⟩, _, _, rfl, rfl, _, _, rfl, rfl, _, _, rfl, rfl, ⟨b6 b3, bl⟩, _, _, rfl, rfl, (by show (0 : Int) < 2147483647; decide), ?_⟩
    have e := emod_in ((c % 1000003 + k * k + 1) * 48271) (m := 2147483647) (by decide)
    exact q _ e.1 e.2
theorem scLowest : FnScope ["_law_top", "_law_bottom", "_law_one", "_law_other"] ["_law_top", "_law_bottom"] (defScope sLowest) := ⟨rfl, rfl, rfl, by decide +kernel, rfl, by decide +kernel, by decide +kernel⟩
theorem ok_lowest {f : Addr} {fd : FuncData} (F : Fun K "_law_lowest" "_law_lowest" sLowest f fd) : FnOk P w K mg base CX0 1 f fd ["_law_top", "_law_bottom"] spLowest := by
  refine F.ok scLowest (fun vs H Q E h => ?_) (fun cdv A outer s H vs Q E hr h => ?_)
  · obtain ⟨a, b, rfl, _⟩ := h
    rfl
  · obtain ⟨a, b, rfl, ha, hb, bb, k⟩ := h
    refine ⟨_, (pss_cons (ps_set (i := 2) scLowest.nd rfl (Or.inl rfl) (pv 0))
      (pss_cons (ps_set (i := 3) scLowest.nd rfl (Or.inl rfl) (pv 1))
      (pss_cons (ps_while PassesOwn.never (pt_cmpR op_gt (pv 3) pe_int (nomark _))
      (pss_one (ps_par (i := 2) (j := 3) rfl scLowest.nd rfl rfl (by decide) rfl rfl (pa_cons (pv 3) (pa_cons (pe_op op_mod (pv 2) (pv 3)) pa_nil)) rfl)))
      (pss_one (ps_ret (pe_tup (pa_cons (pe_op op_fdivB (pv 0) (pv 2)) (pa_cons (pe_op op_fdivB (pv 1) (pv 2)) pa_nil)))))))), ?_⟩
    refine ⟨_, rfl, _, rfl, ?_⟩
    refine while_by (fun σ H' => H' = H ∧ ∃ (x y : Int), σ = [some (.int a), some (.int b), some (.int x), some (.int y)] ∧ 0 ≤ x ∧ 0 ≤ y ∧ G x y = G a b) (fun σ _ => match σ with | [_, _, _, some (.int y)] => y.toNat | _ => 0) ⟨rfl, a, b, rfl, ha, by omega, rfl⟩ ?_ ?_
    · rintro σ H' ⟨rfl, x, y, rfl, hx, hy, e⟩
      refine ⟨_, rfl, _, _, rfl, rfl, _, rfl, ?_⟩
      refine ite2 (fun hc => ?_) (fun hc => ?_)
      · have hy0 : 0 < y := of_decide_eq_true hc
        have t := gcd_turn e hy (by omega)
        refine ⟨_, rfl, _, rfl, _, rfl, _, _, rfl, rfl, (by show 0 < y; omega), _, _, rfl, ⟨rfl, y, x % y, rfl, hy, t.1, t.2⟩, ?_⟩
        have := Int.emod_lt_of_pos x (show 0 < y by omega)
        have := t.1
        show (x % y).toNat < y.toNat
        omega
      · have hy0 : y = 0 := by
          have : ¬ 0 < y := fun z => hc (decide_eq_true z)
          omega
        subst hy0
        rw [G_zero hx] at e
        subst e
        have g := low_small (t := a) hb bb
        refine ⟨_, rfl, _, rfl, _, _, rfl, rfl, g, _, rfl, _, rfl, _, _, rfl, rfl, g, (by show 2 ≤ sizeLine; decide), fun p hp => ?_⟩
        exact k p _ (Same.upd hp) hp upd_same
    · rintro σ H' Q1 Q2 hq ⟨v, e, i, j, e1, e2, z, ez, q⟩
      exact ⟨v, e, i, j, e1, e2, z, ez, hq _ _ q⟩
theorem scDigit : FnScope ["_law_left", "_law_many", "_law_found"] ["_law_left", "_law_many"] (defScope sDigit) := ⟨rfl, rfl, rfl, by decide +kernel, rfl, by decide +kernel, by decide +kernel⟩
theorem ok_digit {f : Addr} {fd : FuncData} (F : Fun K "_law_digit" "_law_digit" sDigit f fd) : FnOk P w K mg base CX0 1 f fd ["_law_left", "_law_many"] spDigit := by
  refine F.ok scDigit (fun vs H Q E h => ?_) (fun cdv A outer s H vs Q E hr h => ?_)
  · obtain ⟨_, _, rfl, _⟩ := h
    rfl
  · obtain ⟨a, m, rfl, ⟨n, ha, n0⟩, m1, bm, k⟩ := h
    refine ⟨_, (pss_cons (ps_set (i := 2) scDigit.nd rfl (Or.inl rfl) (pe_op op_mod (pe_ix ix_list (pv 0) pe_int (fun _ _ => rfl)) (pv 1)))
      (pss_cons (ps_asg (pe_op op_fdivB (pe_ix ix_list (pv 0) pe_int (fun _ _ => rfl)) (pv 1)) (pg_sub (pv 0) pe_int set_list))
      (pss_one (ps_ret (pv 2))))), ?_⟩
    refine ⟨_, rfl, a, _, 0, .int n, rfl, rfl, SqL.of ha, atI_nat (j := 0) rfl, _, rfl, _, _, rfl, rfl, (by show 0 < m; omega), ?_⟩
    refine ⟨_, rfl, a, _, 0, .int n, rfl, rfl, SqL.of ha, atI_nat (j := 0) rfl, _, rfl, _, _, rfl, rfl, ⟨by omega, bm⟩, _, rfl, a, _, 0, 0, rfl, rfl, ha, rfl, ?_⟩
    have e := emod_in n (show (0 : Int) < m by omega)
    exact ⟨_, rfl, k _ _ e.1 e.2 SmB.upd ⟨_, upd_same, Int.ediv_nonneg n0 (by omega)⟩⟩
theorem scMuch : FnScope ["_law_number"] ["_law_number"] (defScope sMuch) := ⟨rfl, rfl, rfl, by decide +kernel, rfl, by decide +kernel, by decide +kernel⟩
theorem ok_much {f : Addr} {fd : FuncData} (F : Fun K "_law_much" "_law_much" sMuch f fd) (cL : Cal P w K mg base CX0 1 "_law_lowest" ["_law_top", "_law_bottom"] spLowest) : FnOk P w K mg base CX0 2 f fd ["_law_number"] spMuch := by
  refine F.ok scMuch (fun vs H Q E h => ?_) (fun cdv A outer s H vs Q E hr h => ?_)
  · obtain ⟨_, rfl, _⟩ := h
    rfl
  · obtain ⟨n, rfl, n0, nl, k⟩ := h
    refine ⟨_, (pss_cons (ps_if (pt_cmpR op_eq (pe_op op_mod (pv 0) pe_int) pe_int (nomark _))
        (pss_one (ps_ret (pe_cal cL hr rfl pass0 (pa_cons (pe_op op_add pe_int (pe_op op_mod (pe_op op_mulB (pe_op op_fdivB (pv 0) pe_int) pe_int) (pe_op op_powB pe_int pe_int))) (pa_cons (pe_op op_add pe_int (pe_op op_mod (pe_op op_fdivB (pv 0) pe_int) pe_int)) pa_nil)))))
        pss_nil)
      (pss_one (ps_ret (pe_cal cL hr rfl pass0 (pa_cons (pe_op op_add pe_int (pe_op op_mod (pe_op op_fdivB (pv 0) pe_int) pe_int)) (pa_cons (pe_op op_add pe_int (pe_op op_mod (pe_op op_fdivB (pv 0) pe_int) pe_int)) pa_nil)))))), ?_⟩
    have q0 : 0 ≤ n / 4 := Int.ediv_nonneg n0 (by decide)
    have ql : n / 4 < 2147483647 := Int.lt_of_le_of_lt (Int.ediv_le_self _ n0) nl
    have bq : Bt 64 (n / 4) := bt_lt 64 q0 (Int.lt_trans ql (by decide : (2147483647 : Int) < 2147483648))
    have e1 := emod_in (n / 4) (m := 12) (by decide)
    have e2 := emod_in (n / 48) (m := 12) (by decide)
    refine ⟨_, rfl, _, _, rfl, rfl, (by show (0 : Int) < 4; decide), rfl, _, rfl, ite2 (fun _ => ?_) (fun _ => ?_)⟩
    · refine ⟨_, rfl, _, _, rfl, rfl, ⟨by decide, b9⟩, _, _, rfl, rfl, ⟨b6 bq, bl⟩, _, _, rfl, rfl, ⟨by decide, by decide, bk⟩, _, _, rfl, rfl, ?_, _, _, rfl, rfl, _, rfl, _, _, rfl, rfl, ⟨by decide, b9⟩, _, _, rfl, rfl, (by show (0 : Int) < 12; decide), _, _, rfl, rfl, ?_⟩
      · rw [e18]
        show (0 : Int) < 1000000000000000000
        decide
      · rw [e18]
        have e3 := emod_in (n / 4 * 69621) (m := 1000000000000000000) (by decide)
        exact ⟨_, _, rfl, by omega, by omega, b9 (by omega) (by omega), fun p H' sm np hp => k _ _ p H' (low_rm (by omega) (by omega) (bt_lt 100 (c := 2000000000000000000) (by omega) (by omega)) (bt_lt 100 (c := 2000000000000000000) (by omega) (by omega))) sm np hp⟩
    · refine ⟨_, rfl, _, _, rfl, rfl, ⟨by decide, b9⟩, _, _, rfl, rfl, (by show (0 : Int) < 12; decide), _, _, rfl, rfl, _, rfl, _, _, rfl, rfl, ⟨by decide, b9⟩, _, _, rfl, rfl, (by show (0 : Int) < 12; decide), _, _, rfl, rfl, ?_⟩
      exact ⟨_, _, rfl, by omega, by omega, b9 (by omega) (by omega), fun p H' sm np hp => k _ _ p H' (low_rm (by omega) (by omega) (bt_lt 100 (c := 2000000000000000000) (by omega) (by omega)) (bt_lt 100 (c := 2000000000000000000) (by omega) (by omega))) sm np hp⟩
end
end K32

namespace K32
open PySem PySem.Spec PyProof.Rows L2 GM TM
def one (c : Nat) : Str := ⟨#[c]⟩
theorem cps_one (c : Nat) : cps (one c) = [c] := rfl
theorem wr_one {c : Nat} (h : 97 ≤ c ∧ c ≤ 122) : Wr (one c) := ⟨(by show 1 ≤ 1; decide), (by show 1 ≤ 8; decide), fun x hx => by
  rw [cps_one] at hx
  rw [List.mem_singleton.mp hx]
  exact h⟩
theorem one_inj {c d : Nat} (e : one c = one d) : c = d := by
  have := congrArg cps e
  rw [cps_one, cps_one] at this
  exact (List.cons.inj this).1
def spWares : Sp := fun vs H Q _ => ∃ c : Int, vs = [.int c] ∧ ∀ (ws : List Str) p H', ws.length = 6 → ws.Nodup → (∀ x ∈ ws, Wr x) → Same H H' → H p = none → H' p = some (.lst (ws.map V.str)) → Q (.ref p) H'
section
variable {P : Program} {w : World} {K : PySem.W.Frag} {mg : Str → Option Value} {base : Heap}
theorem scNames : FnScope ["_law_left", "_law_letters", "_law_found", "_law_k", "_law_word", "_law_j", "_law_tail"] ["_law_left"] (defScope sNames) := ⟨rfl, rfl, rfl, by decide +kernel, rfl, by decide +kernel, by decide +kernel⟩
theorem ok_names {f : Addr} {fd : FuncData} (F : Fun K "_law_names" "_law_names" sNames f fd) (T : Txt mg) (cD : Cal P w K mg base CX0 1 "_law_digit" ["_law_left", "_law_many"] spDigit) : FnOk P w K mg base CX0 2 f fd ["_law_left"] spNames := by
  refine F.ok scNames (fun vs H Q E h => ?_) (fun cdv A outer s H vs Q E hr h => ?_)
  · obtain ⟨_, rfl, _⟩ := h
    rfl
  · obtain ⟨a, rfl, lf, k⟩ := h
    refine ⟨_, (pss_cons (ps_set (i := 1) scNames.nd rfl (Or.inl rfl) pe_str)
      (pss_cons (ps_set (i := 2) scNames.nd rfl (Or.inl rfl) (pe_lst pa_nil))
      (pss_cons (ps_for PassesOwn.never rfl (pi_range1 rfl T.range (pa_cons pe_int pa_nil)) (pg_name (i := 3) scNames.nd rfl (Or.inl rfl))
        (pss_cons (ps_set (i := 4) scNames.nd rfl (Or.inl rfl) pe_str)
        (pss_cons (ps_for PassesOwn.never rfl (pi_range1 rfl T.range (pa_cons (pe_op op_add pe_int (pe_cal cD hr rfl pass0 (pa_cons (pv 0) (pa_cons pe_int pa_nil)))) pa_nil)) (pg_name (i := 5) scNames.nd rfl (Or.inl rfl))
          (pss_one (ps_set (i := 4) scNames.nd rfl (Or.inl rfl) (pe_op op_add_str (pv 4) (pe_ix ix_str (pv 1) (pe_cal cD hr rfl pass0 (pa_cons (pv 0) (pa_cons pe_int pa_nil))) (fun _ _ => rfl))))))
        (pss_cons (ps_for PassesOwn.never rfl (pi_str (pv 1)) (pg_name (i := 6) scNames.nd rfl (Or.inl rfl))
          (pss_one (ps_if (pt_cmpR op_in_seq (pv 4) (pv 2) rfl) (pss_one (ps_set (i := 4) scNames.nd rfl (Or.inl rfl) (pv 6))) pss_nil)))
        (pss_one (ps_expr (pe_bm PySem.F.plainAttrs_list PySem.F.slot_list_append PySem.F.type_list_append mt_append (pv 2) (pa_cons (pv 4) pa_nil))))))))
      (pss_one (ps_ret (pv 2)))))), ?_⟩
    have zL : LET.length ≤ sizeLine := by decide +kernel
    refine ⟨(by show 0 ≤ sizeLine; decide), fun p hp => ?_⟩
    have pa : p ≠ a := lf.there hp
    refine ⟨6, rfl, by decide, by decide, ?_⟩
    refine for_range (fun i σ H' => ∃ (ws : List Str) (v3 v4 v5 v6 : Option V), σ = [some (.ref a), some (.str LET), some (.ref p), v3, v4, v5, v6] ∧ ws.length = i ∧ ws.Nodup ∧ (∀ x ∈ ws, Wr x) ∧ SmB a H H' ∧ Lf H' a ∧ H' p = some (.lst (ws.map V.str)))
      ⟨[], none, none, none, none, rfl, rfl, List.nodup_nil, (fun _ h => nomatch h), SmB.refl.own hp, lf.own pa, upd_same⟩ ?_ ?_
    · rintro i σ H2 hi ⟨ws, v3, v4, v5, v6, rfl, wl, nd, wr, s2, lf2, hp2⟩
      have hi6 : i < 6 := hi
      refine ⟨_, rfl, a, 8, rfl, lf2, by decide, b9, fun e H3 e0 el s3 lf3 => ⟨_, _, rfl, rfl, 1 + e, rfl, by omega, by omega, ?_⟩⟩
      refine for_range (fun j σ H' => ∃ (x : Str) (v5 : Option V), σ = [some (.ref a), some (.str LET), some (.ref p), some (.int (0 + i)), some (.str x), v5, v6] ∧ x.length = j ∧ (∀ c ∈ cps x, 97 ≤ c ∧ c ≤ 122) ∧ SmB a H H' ∧ Lf H' a ∧ H' p = some (.lst (ws.map V.str)))
        ⟨"", v5, rfl, rfl, (fun _ h => nomatch h), s2.trans s3, lf3, s3 _ _ pa hp2⟩ ?_ ?_
      · rintro j σ H4 hj ⟨x, u5, rfl, xl, xc, s4, lf4, hp4⟩
        refine ⟨_, rfl, _, rfl, _, rfl, a, 26, rfl, lf4, by decide, b9, fun g H5 g0 gl s5 lf5 => ?_⟩
        obtain ⟨gn, rfl⟩ := Int.eq_ofNat_of_zero_le g0
        have lx : x.length ≤ 8 := by omega
        refine ⟨LET, (gn : Int), 97 + gn, rfl, rfl, zL, atI_nat (at_let (by omega)), _, _, rfl, rfl, sz1000 (by show x.length + 1 ≤ 1000; omega), ?_⟩
        refine ⟨_, _, rfl, ?_, fun c hc => ?_, s4.trans s5, lf5, s5 _ _ pa hp4⟩
        · rw [lenA, xl]
          rfl
        · rw [cps_append'] at hc
          rcases List.mem_append.mp hc with h | h
          · exact xc c h
          · have : c = 97 + gn := by simpa [cps] using h
            omega
      · rintro σ H4 ⟨x, u5, rfl, xl, xc, s4, lf4, hp4⟩
        have wx : Wr x := ⟨by omega, by omega, xc⟩
        refine ⟨_, rfl, LET, rfl, ?_⟩
        refine for_str (fun j σ H' => ∃ (y : Str) (v6 : Option V), σ = [some (.ref a), some (.str LET), some (.ref p), some (.int (0 + i)), some (.str y), u5, v6] ∧ H' = H4 ∧ Wr y ∧ (y ∉ ws ∨ j = 0 ∨ ∃ q, j = q + 1 ∧ y = one (97 + q) ∧ ∀ r, r < q → one (97 + r) ∈ ws)) ⟨x, v6, rfl, rfl, wx, .inr (.inl rfl)⟩ ?_ ?_
        · rintro j c σ H5 hc ⟨y, v6', rfl, rfl, wy, inv⟩
          have hj : j < 26 := by
            have := (Array.getElem?_eq_some_iff.mp hc).1
            exact this
          have ec : c = 97 + j := by
            have h1 := at_let hj
            have h2 : (cps LET)[j]? = some c := by simpa [cps] using hc
            rw [h1] at h2
            exact (Option.some.inj h2).symm
          subst ec
          refine ⟨_, rfl, _, rfl, p, _, rfl, .inl (SqL.of hp4), rfl, flat_strs ws, _, rfl, ite2 (fun hin => ?_) (fun hno => ?_)⟩
          · have hin' : y ∈ ws := in_strs.mp hin
            refine ⟨_, rfl, one (97 + j), _, rfl, rfl, wr_one (by omega), .inr (.inr ⟨j, rfl, rfl, fun r hr => ?_⟩)⟩
            rcases inv with h | h | ⟨q, e, ey, h⟩
            · exact absurd hin' h
            · omega
            · by_cases z : r = q
              · rw [z, ← ey]
                exact hin'
              · exact h r (by omega)
          · exact ⟨y, _, rfl, rfl, wy, .inl fun z => hno (in_strs.mpr z)⟩
        · rintro σ H5 ⟨y, v6', rfl, rfl, wy, inv⟩
          have ny : y ∉ ws := by
            rcases inv with h | h | ⟨q, e, ey, h⟩
            · exact h
            · exact absurd h (by decide)
            · exfalso
              have q25 : q = 25 := by
                have : LET.cps.size = 26 := by decide +kernel
                omega
              have := pigeon (fun r => one (97 + r)) 25 ws (fun r hr => h r (by omega)) (fun r1 r2 _ _ e => by have := one_inj e; omega)
              omega
          refine ⟨_, rfl, .inl ⟨rfl, _, SqL.of hp4⟩, _, rfl, p, _, _, rfl, rfl, hp4, small1000 (by rw [List.length_map]; omega), ?_⟩
          refine ⟨ws ++ [y], _, _, _, _, rfl, by rw [List.length_append, wl]; rfl, nodup_snoc nd ny, fun z hz => ?_, s4.own hp, lf4.own pa, by rw [List.map_append]; exact upd_same⟩
          rcases List.mem_append.mp hz with h | h
          · exact wr z h
          · rw [List.mem_singleton.mp h]
            exact wy
    · rintro σ H2 ⟨ws, v3, v4, v5, v6, rfl, wl, nd, wr, s2, lf2, hp2⟩
      exact ⟨_, rfl, k ws p H2 wl nd wr s2 hp pa hp2⟩
theorem ndW1 : (["_law_tail", "_law_word"] : List Str).Nodup := by decide +kernel
theorem ndW2 : (["_law_k", "_law_word", "_law_letters", "_law_number"] : List Str).Nodup := by decide +kernel
abbrev tails : List Str := ["", "a", "aa", "ab", "b", "ba"]
theorem cps_inj {x y : Str} (h : cps x = cps y) : x = y := by
  obtain ⟨⟨x⟩⟩ := x
  obtain ⟨⟨y⟩⟩ := y
  simp [cps] at h
  rw [h]
theorem app_inj {x y z : Str} (h : x ++ y = x ++ z) : y = z := by
  have := congrArg cps h
  rw [cps_append', cps_append'] at this
  exact cps_inj (List.append_cancel_left this)
theorem wr_app {x y : Str} (l1 : 1 ≤ x.length) (l : x.length + y.length ≤ 8) (hx : ∀ c ∈ cps x, 97 ≤ c ∧ c ≤ 122) (hy : ∀ c ∈ cps y, 97 ≤ c ∧ c ≤ 122) : Wr (x ++ y) := by
  refine ⟨by rw [lenA]; omega, by rw [lenA]; exact l, fun c hc => ?_⟩
  rw [cps_append'] at hc
  rcases List.mem_append.mp hc with h | h
  · exact hx c h
  · exact hy c h
theorem tails_ok : ∀ t ∈ tails, t.length ≤ 2 ∧ ∀ c ∈ cps t, 97 ≤ c ∧ c ≤ 122 := by decide +kernel
theorem tails_nd : tails.Nodup := by decide +kernel
theorem strs_eq {ys : List V} {ws : List Str} (hl : ys.length = ws.length) (h : ∀ (i : Nat) y b, ys[i]? = some y → ws[i]? = some b → y = .str b) : ys = ws.map V.str := by
  refine list_eq (by rw [List.length_map]; exact hl) fun i x y hx hy => ?_
  rw [List.getElem?_map] at hx
  cases e : ws[i]? with
  | none => rw [e] at hx; cases hx
  | some b =>
    rw [e] at hx
    cases hx
    exact h i y b hy e
theorem nodup_map {α β : Type} {f : α → β} : ∀ {l : List α}, (∀ x ∈ l, ∀ y ∈ l, f x = f y → x = y) → l.Nodup → (l.map f).Nodup
  | [], _, _ => List.nodup_nil
  | x :: r, h, n => by
    rw [List.nodup_cons] at n
    rw [List.map_cons, List.nodup_cons]
    refine ⟨fun z => ?_, nodup_map (fun a ha b hb => h a (List.mem_cons_of_mem _ ha) b (List.mem_cons_of_mem _ hb)) n.2⟩
    obtain ⟨y, hy, e⟩ := List.mem_map.mp z
    have := h y (List.mem_cons_of_mem _ hy) x (List.mem_cons_self ..) e
    rw [this] at hy
    exact n.1 hy
theorem scWares : FnScope ["_law_cell", "_law_letters", "_law_number", "_law_word", "_law_k"] ["_law_cell"] (defScope sWares) := ⟨rfl, rfl, rfl, by decide +kernel, rfl, by decide +kernel, by decide +kernel⟩
theorem ok_wares {f : Addr} {fd : FuncData} (F : Fun K "_law_wares" "_law_wares" sWares f fd) (T : Txt mg) (cN : Cal P w K mg base CX0 2 "_law_names" ["_law_left"] spNames) (cM : Cal P w K mg base CX0 2 "_law_mixed" ["_law_cell", "_law_k"] spMixed) : FnOk P w K mg base CX0 3 f fd ["_law_cell"] spWares := by
  refine F.ok scWares (fun vs H Q E h => ?_) (fun cdv A outer s H vs Q E hr h => ?_)
  · obtain ⟨_, rfl, _⟩ := h
    rfl
  · obtain ⟨c, rfl, k⟩ := h
    refine ⟨_, (pss_cons (ps_set (i := 1) scWares.nd rfl (Or.inr rfl) pe_str)
      (pss_cons (ps_if (pt_cmpR op_eq (pe_op op_mod (pv 0) pe_int) pe_int (nomark _))
        (pss_one (ps_ret (pe_cal cN hr rfl pass0 (pa_cons (pe_lst (pa_cons (pe_op op_fdivB (pe_callB call_abs rfl T.abs' bt_abs (pa_cons (pv 0) pa_nil)) pe_int) pa_nil)) pa_nil))))
        pss_nil)
      (pss_cons (ps_set (i := 2) scWares.nd rfl (Or.inr rfl) (pe_cal cM hr rfl pass0 (pa_cons (pv 0) (pa_cons pe_int pa_nil))))
      (pss_cons (ps_set (i := 3) scWares.nd rfl (Or.inr rfl) pe_str)
      (pss_cons (ps_for PassesOwn.never rfl (pi_range1 rfl T.range (pa_cons (pe_op op_add pe_int (pe_op op_mod (pv 2) pe_int)) pa_nil)) (pg_name (i := 4) scWares.nd rfl (Or.inl rfl))
        (pss_one (ps_set (i := 3) scWares.nd rfl (Or.inr rfl) (pe_op op_add_str (pv 3) (pe_ix ix_str (pv 1) (pe_op op_mod (pe_op op_fdivB (pe_cal cM hr rfl pass0 (pa_cons (pv 0) (pa_cons (pe_op op_add (pv 4) pe_int) pa_nil))) pe_int) pe_int) (fun _ _ => rfl))))))
      (pss_cons (ps_if (pt_cmpR op_eq (pe_op op_mod (pe_op op_fdivB (pv 2) pe_int) pe_int) pe_int (nomark _))
        (pss_one (ps_ret (pe_compC (N' := ["_law_tail", "_law_word"]) (fun σ => [none, some 3].map fun t => t.bind fun j => (σ[j]?).join) rfl rfl (by decide +kernel) (by decide +kernel)
          (hk_of (sc := defScope sWares) rfl (by decide +kernel)) (fun _ _ _ => blkN_by (sc := defScope sWares) (N := ["_law_cell", "_law_letters", "_law_number", "_law_word", "_law_k"]) [none, some 3] rfl rfl rfl rfl (by decide +kernel))
          (pi_tup (pe_tup (pa_cons pe_str (pa_cons pe_str (pa_cons pe_str (pa_cons pe_str (pa_cons pe_str (pa_cons pe_str pa_nil)))))))) (fun _ _ _ _ _ _ => pg_name (i := 0) ndW1 rfl (Or.inl rfl)) (fun _ _ _ _ _ _ => pifs_nil)
          (fun _ _ _ _ _ _ => pe_op op_add_str (pv 1) (pv 0)))))
        pss_nil)
      (pss_one (ps_ret (pe_compC (N' := ["_law_k", "_law_word", "_law_letters", "_law_number"]) (fun σ => [none, some 3, some 1, some 2].map fun t => t.bind fun j => (σ[j]?).join) rfl rfl (by decide +kernel) (by decide +kernel)
          (hk_of (sc := defScope sWares) rfl (by decide +kernel)) (fun _ _ _ => blkN_by (sc := defScope sWares) (N := ["_law_cell", "_law_letters", "_law_number", "_law_word", "_law_k"]) [none, some 3, some 1, some 2] rfl rfl rfl rfl (by decide +kernel))
          (pi_range1 rfl T.range (pa_cons pe_int pa_nil)) (fun _ _ _ _ _ _ => pg_name (i := 0) ndW2 rfl (Or.inl rfl)) (fun _ _ _ _ _ _ => pifs_nil)
          (fun _ _ _ _ _ _ => pe_op op_add_str (pv 1) (pe_ix ix_str (pv 2) (pe_op op_mod (pe_op op_add (pe_op op_fdivB (pv 3) pe_int) (pe_op op_mulB pe_int (pv 0))) pe_int) (fun _ _ => rfl)))))))))))), ?_⟩
    have zL : LET.length ≤ sizeLine := by decide +kernel
    refine ⟨_, rfl, _, _, rfl, rfl, (by show (0 : Int) < 2; decide), rfl, _, rfl, ite2 (fun _ => ?_) (fun _ => ?_)⟩
    · refine ⟨_, rfl, c, rfl, ?_⟩
      have ha : 0 ≤ (if c < 0 then -c else c) := by split <;> omega
      generalize (if c < 0 then -c else c) = n at *
      refine ⟨_, _, rfl, rfl, ⟨by decide, b9⟩, (by show 1 ≤ sizeLine; decide), fun z hz => ⟨z, rfl, ⟨_, upd_same, Int.ediv_nonneg ha (by decide)⟩, fun ws p H' wl nd wr sm hp pz hp' => ?_⟩⟩
      have hpn : H p = none := by
        cases e : H p with
        | none => rfl
        | some o =>
          have := Same.upd (o := .lst [.int (n / 2)]) hz _ _ e
          rw [hp] at this
          cases this
      exact k ws p H' wl nd wr (fun b o e => sm b o (fun q => by rw [q, hz] at e; cases e) (Same.upd hz _ _ e)) hpn hp'
    refine ⟨_, rfl, c, 0, rfl, by decide, by decide, fun n n0 nl => ?_⟩
    have e5 := emod_in n (m := 5) (by decide)
    refine ⟨_, rfl, _, _, rfl, rfl, (by show (0 : Int) < 5; decide), _, _, rfl, rfl, _, rfl, by omega, by omega, ?_⟩
    refine for_range (fun i σ H' => ∃ (x : Str) (v4 : Option V), σ = [some (.int c), some (.str LET), some (.int n), some (.str x), v4] ∧ x.length = i ∧ (∀ d ∈ cps x, 97 ≤ d ∧ d ≤ 122) ∧ H' = H) ⟨"", none, rfl, rfl, (fun _ h => nomatch h), rfl⟩ ?_ ?_
    · rintro i σ H' hi ⟨x, v4, rfl, xl, xc, rfl⟩
      refine ⟨_, rfl, _, rfl, _, rfl, _, rfl, _, _, rfl, rfl, c, _, rfl, by omega, by omega, fun m m0 ml => ?_⟩
      have e := emod_in (m / 64) (m := 26) (by decide)
      obtain ⟨gn, hg⟩ := Int.eq_ofNat_of_zero_le e.1
      refine ⟨_, _, rfl, rfl, ⟨by decide, b9⟩, _, _, rfl, rfl, (by show (0 : Int) < 26; decide), LET, _, 97 + gn, rfl, rfl, zL, (by rw [hg]; exact atI_nat (at_let (by omega))), _, _, rfl, rfl, sz1000 (by show x.length + 1 ≤ 1000; omega), ?_⟩
      refine ⟨_, _, rfl, ?_, fun d hd => ?_, rfl⟩
      · rw [lenA, xl]
        rfl
      · rw [cps_append'] at hd
        rcases List.mem_append.mp hd with h | h
        · exact xc d h
        · have : d = 97 + gn := by simpa [cps] using h
          omega
    · rintro σ H' ⟨x, v4, rfl, xl, xc, rfl⟩
      have xl1 : 1 ≤ x.length := by omega
      have xl5 : x.length ≤ 5 := by omega
      refine ⟨_, rfl, _, _, rfl, rfl, ⟨by decide, b9⟩, _, _, rfl, rfl, (by show (0 : Int) < 2; decide), rfl, _, rfl, ite2 (fun _ => ?_) (fun _ => ?_)⟩
      · refine ⟨(by show 6 ≤ sizeLine; decide), fun q hq => ⟨q, rfl, ⟨_, SqT.of upd_same⟩, fun D hD => ?_⟩⟩
        refine comp_rel (Ys.tup (xs := tails.map V.str) (SqT.of upd_same)) (fun i _ y _ => ∀ t, tails[i]? = some t → y = .str (x ++ t)) (fun _ _ _ _ _ h _ => h) hD (by decide) (fun i y H2 R hy sm hR => ?_) (fun ys H2 sm hD' yl hy => ?_)
        · rw [List.getElem?_map] at hy
          cases et : tails[i]? with
          | none => rw [et] at hy; cases hy
          | some t =>
            rw [et] at hy
            cases hy
            have := (tails_ok t (List.mem_of_getElem? et)).1
            refine ⟨(Keep.refl _).set rfl, _, rfl, _, rfl, _, _, rfl, rfl, sz1000 (by omega), hR _ _ (Same.refl _) fun t' e' => ?_⟩
            rw [et] at e'
            cases e'
            rfl
        · have ey := strs_eq (ws := tails.map fun t => x ++ t) (yl.trans (by rfl)) fun i y b h1 h2 => by
            rw [List.getElem?_map] at h2
            cases et : tails[i]? with
            | none => rw [et] at h2; cases h2
            | some t =>
              rw [et] at h2
              cases h2
              exact hy i (.str t) y (by rw [List.getElem?_map, et]; rfl) h1 t et
          subst ey
          refine k _ D H2 rfl (nodup_map (fun a _ b _ e => app_inj e) tails_nd) (fun z hz => ?_) ((Same.upd hq).trans sm) ?_ hD'
          · obtain ⟨t, ht, rfl⟩ := List.mem_map.mp hz
            have tt := tails_ok t ht
            exact wr_app xl1 (by omega) xc tt.2
          · cases e : H' D with
            | none => rfl
            | some o =>
              have h9 : upd H' q (.tup (tails.map V.str)) D = none := hD
              have := Same.upd (o := .tup (tails.map V.str)) hq _ _ e
              rw [h9] at this
              cases this
      · refine ⟨6, rfl, by decide, by decide, fun D hD => ?_⟩
        refine comp_rel (Ys.rng (lo := 0) (n := 6)) (fun i _ y _ => y = .str (x ++ one (97 + ((n / 10 + 3 * ((0 : Int) + i)) % 26).toNat))) (fun _ _ _ _ _ h _ => h) hD (by decide) (fun i y H2 R hy sm hR => ?_) (fun ys H2 sm hD' yl hy => ?_)
        · obtain ⟨hi, rfl⟩ := rngV_get hy
          have e := emod_in (n / 10 + 3 * ((0 : Int) + i)) (m := 26) (by decide)
          have bi : Bt 64 ((0 : Int) + i) := bt_lt 64 (c := 100) (by omega) (by omega)
          obtain ⟨gn, hg⟩ := Int.eq_ofNat_of_zero_le e.1
          refine ⟨(Keep.refl _).set rfl, _, rfl, _, rfl, _, rfl, _, _, rfl, rfl, ⟨by decide, b9⟩, _, rfl, _, _, rfl, rfl, ⟨bl, b6 bi⟩, _, _, rfl, rfl, _, _, rfl, rfl, (by show (0 : Int) < 26; decide), LET, _, 97 + gn, rfl, rfl, zL, (by rw [hg]; exact atI_nat (at_let (by omega))), _, _, rfl, rfl, sz1000 (by show x.length + 1 ≤ 1000; omega), hR _ _ (Same.refl _) ?_⟩
          rw [hg]
          rfl
        · have ey := strs_eq (ws := (List.range 6).map fun i => x ++ one (97 + ((n / 10 + 3 * ((0 : Int) + (i : Nat))) % 26).toNat)) (yl.trans (by rfl)) fun i y b h1 h2 => by
            rw [List.getElem?_map] at h2
            cases et : (List.range 6)[i]? with
            | none => rw [et] at h2; cases h2
            | some t =>
              rw [et] at h2
              cases h2
              have ti : i = t := by
                obtain ⟨hl, e⟩ := List.getElem?_eq_some_iff.mp et
                simpa using e
              subst ti
              obtain ⟨v, hv⟩ : ∃ v, (rngV 0 6)[i]? = some v := ⟨_, List.getElem?_eq_getElem (by rw [rngV_len]; have := (List.getElem?_eq_some_iff.mp et).1; simpa using this)⟩
              exact hy i v y hv h1
          subst ey
          refine k _ D H2 rfl (nodup_map (fun a ha b hb e => ?_) List.nodup_range) (fun z hz => ?_) sm hD hD'
          · have h1 := one_inj (app_inj e)
            have ha' := List.mem_range.mp ha
            have hb' := List.mem_range.mp hb
            omega
          · obtain ⟨t, ht, rfl⟩ := List.mem_map.mp hz
            have e := emod_in (n / 10 + 3 * ((0 : Int) + (t : Nat))) (m := 26) (by decide)
            refine wr_app xl1 (by show x.length + 1 ≤ 8; omega) xc (fun d hd => ?_)
            rw [cps_one] at hd
            rw [List.mem_singleton.mp hd]
            omega
end
end K32

namespace K32
open PySem PySem.Spec PyProof.Rows L2 GM TM
theorem sorted_pw : ∀ {ss : List Str}, sortedS ss = true → ss.Pairwise (fun a b => a.cps.toList ≤ b.cps.toList)
  | [], _ => .nil
  | x :: r, h => by
    have key : ∀ (r : List Str) (x : Str), risingS x r = true → (∀ y ∈ r, x.cps.toList ≤ y.cps.toList) ∧ r.Pairwise (fun a b => a.cps.toList ≤ b.cps.toList) := by
      intro r
      induction r with
      | nil => intro x _; exact ⟨(fun _ h => nomatch h), .nil⟩
      | cons y r ih =>
        intro x hx
        have hx' : (!ltCps y.cps.toList x.cps.toList && risingS y r) = true := hx
        simp only [Bool.and_eq_true, Bool.not_eq_true'] at hx'
        obtain ⟨h1, h2⟩ := hx'
        rw [ltCps_eq] at h1
        have le : x.cps.toList ≤ y.cps.toList := List.not_lt.mp (of_decide_eq_false h1)
        obtain ⟨i1, i2⟩ := ih y h2
        refine ⟨fun z hz => ?_, .cons i1 i2⟩
        rcases List.mem_cons.mp hz with rfl | hz
        · exact le
        · exact List.le_trans le (i1 z hz)
    obtain ⟨k1, k2⟩ := key r x h
    exact .cons k1 k2
abbrev ltS (a b : Str) : Prop := a.cps.toList < b.cps.toList
structure Six (ss : List Str) : Prop where
  l : ss.length = 6
  up : ss.Pairwise ltS
  wr : ∀ x ∈ ss, Wr x
structure Six0 (ss : List Str) : Prop where
  l : ss.length = 6
  nd : ss.Nodup
  wr : ∀ x ∈ ss, Wr x
theorem str_eq {x y : Str} (h : x.cps.toList = y.cps.toList) : x = y := by
  obtain ⟨x⟩ := x
  obtain ⟨y⟩ := y
  exact congrArg Str.mk (Array.toList_inj.mp h)
theorem Six.of {ws ss : List Str} (h : Six0 ws) (p : ss.Perm ws) (s : sortedS ss = true) : Six ss := by
  refine ⟨p.length_eq.trans h.l, ?_, fun x hx => h.wr x (p.mem_iff.mp hx)⟩
  have n : ss.Nodup := p.nodup_iff.mpr h.nd
  refine (List.pairwise_and_iff.mpr ⟨sorted_pw s, n⟩).imp fun {a b} hab => ?_
  rcases List.le_iff_lt_or_eq.mp hab.1 with q | q
  · exact q
  · exact absurd (str_eq q) hab.2
def prS (ss : List Str) (q : Nat × Nat) : Str × Str := (ss.getD q.1 "", ss.getD q.2 "")
structure Qs (qs : List (Nat × Nat)) (j k : Nat) : Prop where
  pw : qs.Pairwise fun q r => q.1 < r.1 ∨ (q.1 = r.1 ∧ q.2 < r.2)
  rg : ∀ q ∈ qs, q.1 < q.2 ∧ q.2 < 6 ∧ (q.1 < j ∨ (q.1 = j ∧ q.2 < k))
theorem Qs.add {qs : List (Nat × Nat)} {j k : Nat} (h : Qs qs j k) (jk : j < k) (k6 : k < 6) : Qs (qs ++ [(j, k)]) j (k + 1) := by
  refine ⟨List.pairwise_append.mpr ⟨h.pw, List.pairwise_singleton _ _, fun q hq r hr => ?_⟩, fun q hq => ?_⟩
  · rw [List.mem_singleton.mp hr]
    exact (h.rg q hq).2.2
  · rcases List.mem_append.mp hq with z | z
    · have := h.rg q z
      omega
    · rw [List.mem_singleton.mp z]
      exact ⟨jk, k6, .inr ⟨rfl, Nat.lt_succ_self _⟩⟩
theorem Qs.more {qs : List (Nat × Nat)} {j k : Nat} (h : Qs qs j k) : Qs qs j (k + 1) := ⟨h.pw, fun q hq => by have := h.rg q hq; omega⟩
theorem Qs.next {qs : List (Nat × Nat)} {j k m : Nat} (h : Qs qs j k) : Qs qs (j + 1) m := ⟨h.pw, fun q hq => by have := h.rg q hq; omega⟩
theorem Qs.nil : Qs [] 0 m := ⟨.nil, fun q hq => nomatch hq⟩
structure GoodPs (ps : List (Str × Str)) : Prop where
  l : ps.length ≤ 25
  r : Rising ps
  ok : ∀ p ∈ ps, Wr p.1 ∧ Wr p.2 ∧ ltS p.1 p.2
theorem Six.get {ss : List Str} (h : Six ss) {i : Nat} (hi : i < 6) : ss[i]? = some (ss.getD i "") := by
  have := List.getElem?_eq_getElem (l := ss) (i := i) (by rw [h.l]; exact hi)
  rw [this, List.getD_eq_getElem?_getD, this]
  rfl
theorem Six.lt {ss : List Str} (h : Six ss) {i k : Nat} (ik : i < k) (hk : k < 6) : ltS (ss.getD i "") (ss.getD k "") := by
  have h1 : i < ss.length := by have := h.l; omega
  have h2 : k < ss.length := by have := h.l; omega
  have := List.pairwise_iff_getElem.mp h.up i k h1 h2 ik
  rw [List.getD_eq_getElem?_getD, List.getD_eq_getElem?_getD, List.getElem?_eq_getElem h1, List.getElem?_eq_getElem h2]
  exact this
theorem Six.w {ss : List Str} (h : Six ss) {i : Nat} (hi : i < 6) : Wr (ss.getD i "") := h.wr _ (List.mem_of_getElem? (h.get hi))
theorem lt_ne {x y : Str} (h : ltS x y) : x ≠ y := fun e => by
  subst e
  exact List.lt_irrefl _ h
theorem ltP_one {a b c d : Str} (h : ltS a c) : ltP (a, b) (c, d) := by
  show HT.lexLtS [a, b] [c, d] = true
  rw [HT.lexLtS_cons, if_neg (lt_ne h)]
  exact decide_eq_true h
theorem ltP_two {a b d : Str} (h : ltS b d) : ltP (a, b) (a, d) := by
  show HT.lexLtS [a, b] [a, d] = true
  rw [HT.lexLtS_cons, if_pos rfl, HT.lexLtS_cons, if_neg (lt_ne h)]
  exact decide_eq_true h
theorem Qs.good {qs : List (Nat × Nat)} {ss : List Str} {j k : Nat} (h : Qs qs j k) (s : Six ss) (l : qs.length ≤ 25) : GoodPs (qs.map (prS ss)) := by
  refine ⟨by rw [List.length_map]; exact l, fun i p q hp hq => ?_, fun p hp => ?_⟩
  · rw [List.getElem?_map] at hp hq
    obtain ⟨x, hx, rfl⟩ := Option.map_eq_some_iff.mp hp
    obtain ⟨y, hy, rfl⟩ := Option.map_eq_some_iff.mp hq
    obtain ⟨l1, rfl⟩ := List.getElem?_eq_some_iff.mp hx
    obtain ⟨l2, rfl⟩ := List.getElem?_eq_some_iff.mp hy
    have pw := List.pairwise_iff_getElem.mp h.pw i (i + 1) l1 l2 (Nat.lt_succ_self _)
    have r1 := h.rg _ (List.getElem_mem l1)
    have r2 := h.rg _ (List.getElem_mem l2)
    rcases pw with z | ⟨z1, z2⟩
    · exact ltP_one (s.lt z (by omega))
    · show ltP (ss.getD _ "", ss.getD _ "") (ss.getD _ "", ss.getD _ "")
      rw [z1]
      exact ltP_two (s.lt z2 (by omega))
  · obtain ⟨q, hq, rfl⟩ := List.mem_map.mp hp
    have r := h.rg q hq
    exact ⟨s.w (by omega), s.w r.2.1, s.lt r.1 r.2.1⟩
def PsT (H : Hp) (us : List V) (ps : List (Str × Str)) : Prop := us.length = ps.length ∧ ∀ (i : Nat) u p, us[i]? = some u → ps[i]? = some p → ∃ q, u = .ref q ∧ H q = some (.tup [.str p.1, .str p.2])
theorem PsT.nil {H : Hp} : PsT H [] [] := ⟨rfl, fun i u p h => by simp at h⟩
theorem PsT.keep {H H' : Hp} {us : List V} {ps : List (Str × Str)} (h : PsT H us ps) (s : Tk H H') : PsT H' us ps := ⟨h.1, fun i u p hu hp => by
  obtain ⟨q, e, sq⟩ := h.2 i u p hu hp
  exact ⟨q, e, s _ _ sq⟩⟩
theorem PsT.add {H : Hp} {us : List V} {ps : List (Str × Str)} {q : Addr} {p : Str × Str} (h : PsT H us ps) (k : H q = some (.tup [.str p.1, .str p.2])) : PsT H (us ++ [.ref q]) (ps ++ [p]) := by
  refine ⟨by rw [List.length_append, List.length_append, h.1]; rfl, fun j x d hx hd => ?_⟩
  by_cases hj : j < us.length
  · rw [List.getElem?_append_left hj] at hx
    rw [List.getElem?_append_left (by rw [← h.1]; exact hj)] at hd
    exact h.2 j x d hx hd
  · rw [List.getElem?_append_right (by omega)] at hx
    rw [List.getElem?_append_right (by rw [← h.1]; omega), ← h.1] at hd
    obtain ⟨hl, e⟩ := List.getElem?_eq_some_iff.mp hx
    simp at hl
    rw [hl] at hx hd
    cases hx
    cases hd
    exact ⟨q, rfl, k⟩
def spApart (K : PySem.W.Frag) : Sp := fun vs H Q _ => ∃ (a : Addr) (ws : List Str) (c o : Int), vs = [.ref a, .int c, .int o] ∧ SqL K H a (ws.map V.str) ∧ Six0 ws ∧ 1 ≤ o ∧
  ∀ p us ps H', Same H H' → H p = none → H' p = some (.tup us) → PsT H' us ps → GoodPs ps → Q (.ref p) H'
theorem same_own {H H' : Hp} {p : Addr} {o : HO} (s : Same H H') (n : H p = none) : Same H (upd H' p o) := fun b u e => by
  rw [upd_ne (fun z => by rw [z, n] at e; cases e)]
  exact s _ _ e
theorem same_none {H H' : Hp} {p : Addr} (s : Same H H') (n : H' p = none) : H p = none := by
  cases e : H p with
  | none => rfl
  | some o =>
    have := s _ _ e
    rw [n] at this
    cases this
theorem at_six {ss : List Str} (h : Six ss) {i : Nat} {e : Int} (hi : i < 6) (he : e = (i : Int)) : atI (ss.map V.str) e = some (.str (ss.getD i "")) := by
  rw [he]
  exact atI_nat (by rw [List.getElem?_map, h.get hi]; rfl)
section
variable {P : Program} {w : World} {K : PySem.W.Frag} {mg : Str → Option Value} {base : Heap}
theorem scApart : FnScope ["_law_wares_here", "_law_cell", "_law_often", "_law_found", "_law_some", "_law_j", "_law_k"] ["_law_wares_here", "_law_cell", "_law_often"] (defScope sApart) := ⟨rfl, rfl, rfl, by decide +kernel, rfl, by decide +kernel, by decide +kernel⟩
theorem ok_apart {f : Addr} {fd : FuncData} (F : Fun K "_law_apart" "_law_apart" sApart f fd) (T : Txt mg) (cM : Cal P w K mg base CX0 1 "_law_mixed" ["_law_cell", "_law_k"] spMixed) : FnOk P w K mg base CX0 2 f fd ["_law_wares_here", "_law_cell", "_law_often"] (spApart K) := by
  refine F.ok scApart (fun vs H Q E h => ?_) (fun cdv A outer s H vs Q E hr h => ?_)
  · obtain ⟨_, _, _, _, rfl, _⟩ := h
    rfl
  · obtain ⟨a, ws, c, o, rfl, ha, six0, o1, k⟩ := h
    refine ⟨_, (pss_cons (ps_set (i := 3) scApart.nd rfl (Or.inl rfl) (pe_lst pa_nil))
      (pss_cons (ps_set (i := 4) scApart.nd rfl (Or.inl rfl) (pe_callB call_sortS rfl T.sorted' boot_sorted (pa_cons (pv 0) pa_nil)))
      (pss_cons (ps_for PassesOwn.never rfl (pi_range1 rfl T.range (pa_cons (pe_callB call_len_seq rfl T.len PySem.boot_len (pa_cons (pv 4) pa_nil)) pa_nil)) (pg_name (i := 5) scApart.nd rfl (Or.inl rfl))
        (pss_one (ps_for PassesOwn.never rfl (pi_range2 rfl T.range (pa_cons (pe_op op_add (pv 5) pe_int) (pa_cons (pe_callB call_len_seq rfl T.len PySem.boot_len (pa_cons (pv 4) pa_nil)) pa_nil))) (pg_name (i := 6) scApart.nd rfl (Or.inl rfl))
          (pss_one (ps_if (pt_cmpR op_eq (pe_op op_mod (pe_op op_fdivB (pe_cal cM hr rfl pass0 (pa_cons (pv 1) (pa_cons (pe_op op_add (pe_op op_mulB pe_int (pv 5)) (pv 6)) pa_nil))) pe_int) (pv 2)) pe_int (nomark _))
            (pss_one (ps_expr (pe_bm PySem.F.plainAttrs_list PySem.F.slot_list_append PySem.F.type_list_append mt_append (pv 3) (pa_cons (pe_tup (pa_cons (pe_ix ix_list (pv 4) (pv 5) (fun _ _ => rfl)) (pa_cons (pe_ix ix_list (pv 4) (pv 6) (fun _ _ => rfl)) pa_nil))) pa_nil))))
            pss_nil)))))
      (pss_one (ps_ret (pe_callTy call_tuple_of rfl T.tup' bt_tuple (pa_cons (pv 3) pa_nil))))))), ?_⟩
    refine ⟨(by show 0 ≤ sizeLine; decide), fun d hd => ?_⟩
    have s1 : Same H (upd H d (.lst [])) := Same.upd hd
    refine ⟨_, rfl, a, ws, rfl, s1.seq ha, by have := six0.l; omega, fun z ss pm st hz => ?_⟩
    have six := Six.of six0 pm st
    have zd : z ≠ d := fun e => by rw [e, upd_same] at hz; cases hz
    have hz0 : H z = none := same_none s1 hz
    have l6 : ((ss.map V.str).length : Int) = 6 := by rw [List.length_map, six.l]; rfl
    refine ⟨_, rfl, z, _, rfl, .inl (SqL.of upd_same), _, rfl, by omega, by omega, ?_⟩
    rw [l6]
    refine for_range (fun i σ H' => ∃ (us : List V) (qs : List (Nat × Nat)) (v5 v6 : Option V), σ = [some (.ref a), some (.int c), some (.int o), some (.ref d), some (.ref z), v5, v6] ∧ Same H H' ∧ H' d = some (.lst us) ∧ H' z = some (.lst (ss.map V.str)) ∧ PsT H' us (qs.map (prS ss)) ∧ Qs qs i 0 ∧ qs.length ≤ 5 * min i 5)
      ⟨[], [], none, none, rfl, same_own s1 hz0, by rw [upd_ne (Ne.symm zd)]; exact upd_same, upd_same, PsT.nil, Qs.nil, by decide⟩ ?_ ?_
    · rintro j σ H2 hj ⟨us, qs, v5, v6, rfl, s2, hd2, hz2, pt, hq, ql⟩
      have hj6 : j < 6 := hj
      refine ⟨_, rfl, _, _, rfl, rfl, _, rfl, z, _, rfl, .inl (SqL.of hz2), _, _, rfl, by omega, ?_⟩
      rw [l6]
      refine for_range (fun i σ H' => ∃ (us : List V) (qs : List (Nat × Nat)) (v6 : Option V), σ = [some (.ref a), some (.int c), some (.int o), some (.ref d), some (.ref z), some (.int (0 + j)), v6] ∧ Same H H' ∧ H' d = some (.lst us) ∧ H' z = some (.lst (ss.map V.str)) ∧ PsT H' us (qs.map (prS ss)) ∧ Qs qs j (j + 1 + i) ∧ qs.length ≤ 5 * min j 5 + i)
        ⟨us, qs, v6, rfl, s2, hd2, hz2, pt, ⟨hq.pw, fun q h => by have := hq.rg q h; omega⟩, by omega⟩ ?_ ?_
      · rintro i σ H3 hi ⟨us, qs, v6, rfl, s3, hd3, hz3, pt, hq, ql⟩
        have hi6 : j + 1 + i < 6 := by omega
        have bj : Bt 64 ((0 : Int) + j) := bt_lt 64 (c := 100) (by omega) (by omega)
        refine ⟨_, rfl, _, rfl, _, _, rfl, rfl, ⟨bl, b6 bj⟩, _, rfl, _, _, rfl, rfl, c, _, rfl, by omega, by omega, fun m m0 ml => ?_⟩
        refine ⟨_, _, rfl, rfl, ⟨by decide, b9⟩, _, rfl, _, _, rfl, rfl, (by show 0 < o; omega), rfl, _, rfl, ite2 (fun _ => ?_) (fun _ => ?_)⟩
        · refine ⟨_, rfl, .inl ⟨rfl, _, SqL.of hd3⟩, _, rfl, _, rfl, z, _, _, _, rfl, rfl, SqL.of hz3, at_six six (i := j) hj6 (by omega), _, rfl, _, rfl, z, _, _, _, rfl, rfl, SqL.of hz3, at_six six (i := j + 1 + i) hi6 (by omega), (by show 2 ≤ sizeLine; decide), fun q hq' => ?_⟩
          have qd : q ≠ d := fun e => by rw [e, hd3] at hq'; cases hq'
          have qz : d ≠ z := Ne.symm zd
          have ul : us.length = qs.length := by rw [pt.1, List.length_map]
          have e1 : (upd H3 q (.tup [.str (ss.getD j ""), .str (ss.getD (j + 1 + i) "")])) d = some (.lst us) := Same.upd hq' _ _ hd3
          refine ⟨d, us, _, rfl, rfl, e1, small1000 (by omega), us ++ [.ref q], qs ++ [(j, j + 1 + i)], _, rfl, same_own (s3.trans (Same.upd hq')) hd, upd_same, ?_, ?_, hq.add (by omega) hi6, by rw [List.length_append, List.length_singleton]; omega⟩
          · rw [upd_ne zd]
            exact Same.upd hq' _ _ hz3
          · rw [List.map_append]
            refine ((pt.keep (Same.upd hq').tk).keep (Tk.lst e1)).add ?_
            rw [upd_ne qd]
            exact upd_same
        · exact ⟨us, qs, _, rfl, s3, hd3, hz3, pt, hq.more, by omega⟩
      · rintro σ H3 ⟨us, qs, v6, rfl, s3, hd3, hz3, pt, hq, ql⟩
        exact ⟨us, qs, _, _, rfl, s3, hd3, hz3, pt, hq.next, by omega⟩
    · rintro σ H2 ⟨us, qs, v5, v6, rfl, s2, hd2, hz2, pt, hq, ql⟩
      refine ⟨_, rfl, d, us, rfl, .inl ⟨SqL.of hd2, fun l hl => ?_⟩⟩
      exact k l us _ _ (s2.trans (Same.upd hl)) (same_none s2 hl) upd_same (pt.keep (Same.upd hl).tk) (hq.good six (by omega))
end
end K32

namespace K32
open PySem PySem.Spec PyProof.Rows L2 GM TM
theorem same_smb {H H1 H2 : Hp} {a : Addr} (s : Same H H1) (k : SmB a H1 H2) (n : H a = none) : Same H H2 := fun b o e => k b o (fun z => by rw [z, n] at e; cases e) (s b o e)
theorem SmB.tk {H H' : Hp} {a : Addr} (k : SmB a H H') (l : Lf H a) : Tk H H' := fun b ys e => k b _ (fun z => by
  obtain ⟨_, h, _⟩ := l
  rw [z, h] at e
  cases e) e
def RmsT (H : Hp) (us : List V) : Prop := ∀ u ∈ us, ∃ q t b, u = .ref q ∧ H q = some (.tup [.int t, .int b]) ∧ Rm t b
theorem RmsT.nil {H : Hp} : RmsT H [] := fun u h => nomatch h
theorem RmsT.keep {H H' : Hp} {us : List V} (h : RmsT H us) (s : Tk H H') : RmsT H' us := fun u hu => by
  obtain ⟨q, t, b, e, sq, r⟩ := h u hu
  exact ⟨q, t, b, e, s _ _ sq, r⟩
theorem RmsT.add {H : Hp} {us : List V} {q : Addr} {t b : Int} (h : RmsT H us) (k : H q = some (.tup [.int t, .int b])) (r : Rm t b) : RmsT H (us ++ [.ref q]) := fun u hu => by
  rcases List.mem_append.mp hu with z | z
  · exact h u z
  · rw [List.mem_singleton.mp z]
    exact ⟨q, t, b, rfl, k, r⟩
structure Bn (H : Hp) (p r q : Addr) (rs us : List V) (ps : List (Str × Str)) : Prop where
  hp : H p = some (.tup [.ref r, .ref q])
  hr : H r = some (.tup rs)
  rm : RmsT H rs
  l1 : 1 ≤ rs.length
  l16 : rs.length ≤ 16
  hq : H q = some (.tup us)
  pt : PsT H us ps
  g : GoodPs ps
theorem Bn.keep {H H' : Hp} {p r q : Addr} {rs us : List V} {ps : List (Str × Str)} (h : Bn H p r q rs us ps) (s : Same H H') : Bn H' p r q rs us ps := ⟨s _ _ h.hp, s _ _ h.hr, h.rm.keep s.tk, h.l1, h.l16, s _ _ h.hq, h.pt.keep s.tk, h.g⟩
def spBench (K : PySem.W.Frag) : Sp := fun vs H Q _ => ∃ (a : Addr) (ns : List Int) (w : Addr) (ws : List Str), vs = [.ref a, .ref w] ∧ SqL K H a (ns.map V.int) ∧ SqL K H w (ws.map V.str) ∧ Six0 ws ∧ ∀ p r q rs us ps H', Same H H' → Bn H' p r q rs us ps → Q (.ref p) H'
theorem abs_nonneg (c : Int) : 0 ≤ (if c < 0 then -c else c) := by split <;> omega
theorem G_one (t : Int) : G t 1 = 1 := by
  have h1 := G_pos (a := t) (b := 1) (by decide)
  have h2 := G_le_r (a := t) (b := 1) (by decide)
  omega
theorem rm_one {t : Int} (h : 1 ≤ t) (ht : Bt 100 t) : Rm t 1 := ⟨h, by decide, G_one t, ht, bt_lt 100 (c := 2) (by decide) (by decide)⟩
theorem pick4 {e : Int} (h0 : 0 ≤ e) (h : e < 4) : ∃ m : Int, atI [V.int 5, V.int 5, V.int 5, V.int 16] e = some (.int m) ∧ 1 ≤ m ∧ m ≤ 16 := by
  obtain ⟨n, rfl⟩ := Int.eq_ofNat_of_zero_le h0
  have : n = 0 ∨ n = 1 ∨ n = 2 ∨ n = 3 := by omega
  rcases this with rfl | rfl | rfl | rfl
  · exact ⟨5, rfl, by decide, by decide⟩
  · exact ⟨5, rfl, by decide, by decide⟩
  · exact ⟨5, rfl, by decide, by decide⟩
  · exact ⟨16, rfl, by decide, by decide⟩
section
variable {P : Program} {w : World} {K : PySem.W.Frag} {mg : Str → Option Value} {base : Heap}
theorem scFree : FnScope ["_law_script", "_law_wares_here", "_law_left", "_law_rooms", "_law_k", "_law_top", "_law_pairs", "_law_some", "_law_j"] ["_law_script", "_law_wares_here"] (defScope sFree) := ⟨rfl, rfl, rfl, by decide +kernel, rfl, by decide +kernel, by decide +kernel⟩
theorem ok_free {f : Addr} {fd : FuncData} (F : Fun K "_law_free_bench" "_law_free_bench" sFree f fd) (T : Txt mg) (cC : Cal P w K mg base CX0 1 "_law_cell_at" ["_law_script", "_law_k"] (spCell K)) (cD : Cal P w K mg base CX0 1 "_law_digit" ["_law_left", "_law_many"] spDigit) (cL : Cal P w K mg base CX0 1 "_law_lowest" ["_law_top", "_law_bottom"] spLowest) : FnOk P w K mg base CX0 2 f fd ["_law_script", "_law_wares_here"] (spBench K) := by
  refine F.ok scFree (fun vs H Q E h => ?_) (fun cdv A outer s H vs Q E hr h => ?_)
  · obtain ⟨_, _, _, _, rfl, _⟩ := h
    rfl
  · obtain ⟨a, ns, w, ws, rfl, ha, hw, six0, k⟩ := h
    refine ⟨_, (pss_cons (ps_set (i := 2) scFree.nd rfl (Or.inl rfl) (pe_lst (pa_cons (pe_callB call_abs rfl T.abs' bt_abs (pa_cons (pe_cal cC hr rfl pass0 (pa_cons (pv 0) (pa_cons pe_int pa_nil))) pa_nil)) pa_nil)))
      (pss_cons (ps_set (i := 3) scFree.nd rfl (Or.inl rfl) (pe_lst pa_nil))
      (pss_cons (ps_for PassesOwn.never rfl (pi_range1 rfl T.range (pa_cons (pe_op op_add pe_int (pe_cal cD hr rfl pass0 (pa_cons (pv 2) (pa_cons pe_int pa_nil)))) pa_nil)) (pg_name (i := 4) scFree.nd rfl (Or.inl rfl))
        (pss_cons (ps_set (i := 5) scFree.nd rfl (Or.inl rfl) (pe_op op_add pe_int (pe_cal cD hr rfl pass0 (pa_cons (pv 2) (pa_cons (pe_op op_powB pe_int pe_int) pa_nil)))))
        (pss_one (ps_expr (pe_bm PySem.F.plainAttrs_list PySem.F.slot_list_append PySem.F.type_list_append mt_append (pv 3) (pa_cons (pe_cal cL hr rfl pass0 (pa_cons (pv 5) (pa_cons (pe_op op_add pe_int (pe_cal cD hr rfl pass0 (pa_cons (pv 2) (pa_cons (pe_op op_powB pe_int pe_int) pa_nil)))) pa_nil))) pa_nil))))))
      (pss_cons (ps_set (i := 6) scFree.nd rfl (Or.inl rfl) (pe_lst pa_nil))
      (pss_cons (ps_set (i := 2) scFree.nd rfl (Or.inl rfl) (pe_lst (pa_cons (pe_callB call_abs rfl T.abs' bt_abs (pa_cons (pe_cal cC hr rfl pass0 (pa_cons (pv 0) (pa_cons pe_int pa_nil))) pa_nil)) pa_nil)))
      (pss_cons (ps_set (i := 7) scFree.nd rfl (Or.inl rfl) (pe_callB call_sortS rfl T.sorted' boot_sorted (pa_cons (pv 1) pa_nil)))
      (pss_cons (ps_for PassesOwn.never rfl (pi_range1 rfl T.range (pa_cons pe_int pa_nil)) (pg_name (i := 8) scFree.nd rfl (Or.inl rfl))
        (pss_one (ps_for PassesOwn.never rfl (pi_range2 rfl T.range (pa_cons (pe_op op_add (pv 8) pe_int) (pa_cons pe_int pa_nil))) (pg_name (i := 4) scFree.nd rfl (Or.inl rfl))
          (pss_one (ps_if (pt_cmpR op_eq (pe_cal cD hr rfl pass0 (pa_cons (pv 2) (pa_cons pe_int pa_nil))) pe_int (nomark _))
            (pss_one (ps_expr (pe_bm PySem.F.plainAttrs_list PySem.F.slot_list_append PySem.F.type_list_append mt_append (pv 6) (pa_cons (pe_tup (pa_cons (pe_ix ix_list (pv 7) (pv 8) (fun _ _ => rfl)) (pa_cons (pe_ix ix_list (pv 7) (pv 4) (fun _ _ => rfl)) pa_nil))) pa_nil))))
            pss_nil)))))
      (pss_one (ps_ret (pe_tup (pa_cons (pe_callTy call_tuple_of rfl T.tup' bt_tuple (pa_cons (pv 3) pa_nil)) (pa_cons (pe_callTy call_tuple_of rfl T.tup' bt_tuple (pa_cons (pv 6) pa_nil)) pa_nil)))))))))))), ?_⟩
    refine ⟨_, rfl, a, ns, 1, rfl, ha, by decide, fun c => ⟨c, rfl, (by show 1 ≤ sizeLine; decide), fun l hl => ?_⟩⟩
    have c0 := abs_nonneg c
    generalize (if c < 0 then -c else c) = n at *
    have s1 : Same H (upd H l (.lst [.int n])) := Same.upd hl
    refine ⟨(by show 0 ≤ sizeLine; decide), fun d hd => ?_⟩
    have dl : d ≠ l := fun e => by rw [e, upd_same] at hd; cases hd
    have hd0 : H d = none := same_none s1 hd
    have e18' : (10 : Int) ^ Int.toNat 18 = 1000000000000000000 := e18
    refine ⟨_, rfl, l, 16, rfl, ⟨n, by rw [upd_ne (Ne.symm dl)]; exact upd_same, c0⟩, by decide, b9, fun m H1 m0 ml sb lf => ⟨_, _, rfl, rfl, _, rfl, by omega, by omega, ?_⟩⟩
    have s2 : Same H H1 := same_smb (s1.trans (Same.upd hd)) sb hl
    have hd1 : H1 d = some (.lst []) := sb d _ dl upd_same
    refine for_range (fun i σ H' => ∃ (rs : List V) (v4 v5 : Option V), σ = [some (.ref a), some (.ref w), some (.ref l), some (.ref d), v4, v5, none, none, none] ∧ Same H H' ∧ Lf H' l ∧ H' d = some (.lst rs) ∧ rs.length = i ∧ RmsT H' rs)
      ⟨[], none, none, rfl, s2, lf, hd1, rfl, RmsT.nil⟩ ?_ ?_
    · rintro i σ H2 hi ⟨rs, v4, v5, rfl, s3, lf2, hd2, rl, rm⟩
      refine ⟨_, rfl, _, _, rfl, rfl, ⟨by decide, by decide, bk⟩, l, _, rfl, lf2, ?_, ?_, fun t H3 t0 tl sb3 lf3 => ⟨_, _, rfl, rfl, ?_⟩⟩
      · rw [e18']; decide
      · rw [e18']; exact b9
      have hd3 := sb3 _ _ dl hd2
      refine ⟨_, rfl, .inl ⟨rfl, _, SqL.of hd3⟩, _, rfl, _, rfl, _, _, rfl, rfl, ⟨by decide, by decide, bk⟩, l, _, rfl, lf3, ?_, ?_, fun b H4 b0 bl' sb4 lf4 => ⟨_, _, rfl, rfl, ?_⟩⟩
      · rw [e18']; decide
      · rw [e18']; exact b9
      rw [e18'] at bl' tl
      refine ⟨1 + t, 1 + b, rfl, by omega, by omega, b9 (by omega) (by omega), fun p H5 s5 hp5 hp5' => ?_⟩
      have hd4 := sb4 _ _ dl hd3
      have hd5 := s5 _ _ hd4
      have pd : p ≠ d := fun e => by rw [e, hd4] at hp5; cases hp5
      refine ⟨d, rs, _, rfl, rfl, hd5, small1000 (by omega), ?_⟩
      refine ⟨rs ++ [.ref p], _, _, rfl, same_own ((same_smb (same_smb s3 sb3 hl) sb4 hl).trans s5) hd0, (lf4.keep s5).own dl, upd_same, by rw [List.length_append, rl]; rfl, ?_⟩
      refine ((((rm.keep (sb3.tk lf2)).keep (sb4.tk lf3)).keep s5.tk).keep (Tk.lst hd5)).add (by rw [upd_ne pd]; exact hp5') (low_rm (by omega) (by omega) (bt_lt 100 (c := 2000000000000000000) (by omega) (by omega)) (bt_lt 100 (c := 2000000000000000000) (by omega) (by omega)))
    · rintro σ H2 ⟨rs, v4, v5, rfl, s3, lf2, hd2, rl, rm⟩
      have rl1 : 1 ≤ rs.length := by omega
      have rl16 : rs.length ≤ 16 := by omega
      refine ⟨(by show 0 ≤ sizeLine; decide), fun g hg => ?_⟩
      have hg0 : H g = none := same_none s3 hg
      have gd : g ≠ d := fun e => by rw [e, hd2] at hg; cases hg
      have s4 := s3.trans (Same.upd (o := .lst []) hg)
      refine ⟨_, rfl, a, ns, 2, rfl, s4.seq ha, by decide, fun c' => ⟨c', rfl, (by show 1 ≤ sizeLine; decide), fun l2 hl2 => ?_⟩⟩
      have c0' := abs_nonneg c'
      generalize (if c' < 0 then -c' else c') = n' at *
      have s5 := s4.trans (Same.upd (o := .lst [.int n']) hl2)
      have hl20 : H l2 = none := same_none s4 hl2
      have lg : l2 ≠ g := fun e => by rw [e, upd_same] at hl2; cases hl2
      have ld : l2 ≠ d := fun e => by rw [e, Same.upd hg _ _ hd2] at hl2; cases hl2
      refine ⟨_, rfl, w, ws, rfl, s5.seq hw, by have := six0.l; omega, fun z ss pm st hz => ?_⟩
      have six := Six.of six0 pm st
      have hz0 : H z = none := same_none s5 hz
      have zl : z ≠ l2 := fun e => by rw [e, upd_same] at hz; cases hz
      have zg : z ≠ g := fun e => by rw [e, Same.upd hl2 _ _ upd_same] at hz; cases hz
      have zd : z ≠ d := fun e => by rw [e, Same.upd hl2 _ _ (Same.upd hg _ _ hd2)] at hz; cases hz
      have s6 := s5.trans (Same.upd (o := .lst (ss.map V.str)) hz)
      refine ⟨6, rfl, by decide, by decide, ?_⟩
      refine for_range (fun i σ H' => ∃ (us : List V) (qs : List (Nat × Nat)) (v4 v8 : Option V), σ = [some (.ref a), some (.ref w), some (.ref l2), some (.ref d), v4, v5, some (.ref g), some (.ref z), v8] ∧ Same H H' ∧ Lf H' l2 ∧ H' d = some (.lst rs) ∧ RmsT H' rs ∧ H' g = some (.lst us) ∧ H' z = some (.lst (ss.map V.str)) ∧ PsT H' us (qs.map (prS ss)) ∧ Qs qs i 0 ∧ qs.length ≤ 5 * min i 5)
        ⟨[], [], _, none, rfl, s6, ⟨n', Same.upd hz _ _ upd_same, c0'⟩, Same.upd hz _ _ (Same.upd hl2 _ _ (Same.upd hg _ _ hd2)), ((rm.keep (Same.upd hg).tk).keep (Same.upd hl2).tk).keep (Same.upd hz).tk, Same.upd hz _ _ (Same.upd hl2 _ _ upd_same), upd_same, PsT.nil, Qs.nil, by decide⟩ ?_ ?_
      · rintro j σ H3 hj ⟨us, qs, v4, v8, rfl, s7, lf3, hd3, rm3, hg3, hz3, pt, hq, ql⟩
        have hj6 : j < 6 := hj
        refine ⟨_, rfl, _, _, rfl, rfl, _, _, rfl, by omega, ?_⟩
        refine for_range (fun i σ H' => ∃ (us : List V) (qs : List (Nat × Nat)) (v4 : Option V), σ = [some (.ref a), some (.ref w), some (.ref l2), some (.ref d), v4, v5, some (.ref g), some (.ref z), some (.int (0 + j))] ∧ Same H H' ∧ Lf H' l2 ∧ H' d = some (.lst rs) ∧ RmsT H' rs ∧ H' g = some (.lst us) ∧ H' z = some (.lst (ss.map V.str)) ∧ PsT H' us (qs.map (prS ss)) ∧ Qs qs j (j + 1 + i) ∧ qs.length ≤ 5 * min j 5 + i)
          ⟨us, qs, v4, rfl, s7, lf3, hd3, rm3, hg3, hz3, pt, ⟨hq.pw, fun q h => by have := hq.rg q h; omega⟩, by omega⟩ ?_ ?_
        · rintro i σ H4 hi ⟨us, qs, v4, rfl, s8, lf4, hd4, rm4, hg4, hz4, pt, hq, ql⟩
          have hi6 : j + 1 + i < 6 := by omega
          refine ⟨_, rfl, l2, 2, rfl, lf4, by decide, b9, fun m H5 m0 ml sb5 lf5 => ?_⟩
          have s9 := same_smb s8 sb5 hl20
          have hd5 := sb5 _ _ (Ne.symm ld) hd4
          have hg5 := sb5 _ _ (Ne.symm lg) hg4
          have hz5 := sb5 _ _ zl hz4
          have rm5 := rm4.keep (sb5.tk lf4)
          have pt5 := pt.keep (sb5.tk lf4)
          refine ⟨rfl, _, rfl, ite2 (fun _ => ?_) (fun _ => ?_)⟩
          · refine ⟨_, rfl, .inl ⟨rfl, _, SqL.of hg5⟩, _, rfl, _, rfl, z, _, _, _, rfl, rfl, SqL.of hz5, at_six six (i := j) hj6 (by omega), _, rfl, _, rfl, z, _, _, _, rfl, rfl, SqL.of hz5, at_six six (i := j + 1 + i) hi6 (by omega), (by show 2 ≤ sizeLine; decide), fun q hq' => ?_⟩
            have qg : q ≠ g := fun e => by rw [e, hg5] at hq'; cases hq'
            have ul : us.length = qs.length := by rw [pt.1, List.length_map]
            have e1 : (upd H5 q (.tup [.str (ss.getD j ""), .str (ss.getD (j + 1 + i) "")])) g = some (.lst us) := Same.upd hq' _ _ hg5
            refine ⟨g, us, _, rfl, rfl, e1, small1000 (by omega), us ++ [.ref q], qs ++ [(j, j + 1 + i)], _, rfl, same_own (s9.trans (Same.upd hq')) hg0, (lf5.keep (Same.upd hq')).own (Ne.symm lg), ?_, (rm5.keep (Same.upd hq').tk).keep (Tk.lst e1), upd_same, ?_, ?_, hq.add (by omega) hi6, by rw [List.length_append, List.length_singleton]; omega⟩
            · rw [upd_ne (Ne.symm gd)]
              exact Same.upd hq' _ _ hd5
            · rw [upd_ne zg]
              exact Same.upd hq' _ _ hz5
            · rw [List.map_append]
              refine ((pt5.keep (Same.upd hq').tk).keep (Tk.lst e1)).add ?_
              rw [upd_ne qg]
              exact upd_same
          · exact ⟨us, qs, _, rfl, s9, lf5, hd5, rm5, hg5, hz5, pt5, hq.more, by omega⟩
        · rintro σ H4 ⟨us, qs, v4, rfl, s8, lf4, hd4, rm4, hg4, hz4, pt, hq, ql⟩
          exact ⟨us, qs, _, _, rfl, s8, lf4, hd4, rm4, hg4, hz4, pt, hq.next, by omega⟩
      · rintro σ H3 ⟨us, qs, v4, v8, rfl, s7, lf3, hd3, rm3, hg3, hz3, pt, hq, ql⟩
        refine ⟨_, rfl, d, rs, rfl, .inl ⟨SqL.of hd3, fun r hr' => ?_⟩⟩
        have t1 := Same.upd (o := .tup rs) hr'
        refine ⟨_, rfl, g, us, rfl, .inl ⟨SqL.of (t1 _ _ hg3), fun q hq' => ⟨(by show 2 ≤ sizeLine; decide), fun p hp => ?_⟩⟩⟩
        have t2 := Same.upd (o := .tup us) hq'
        have t3 := Same.upd (o := .tup [.ref r, .ref q]) hp
        refine k p r q rs us _ _ (((s7.trans t1).trans t2).trans t3) ⟨upd_same, t3 _ _ (t2 _ _ upd_same), ((rm3.keep t1.tk).keep t2.tk).keep t3.tk, rl1, rl16, t3 _ _ upd_same, ((pt.keep t1.tk).keep t2.tk).keep t3.tk, hq.good six (by omega)⟩
end
end K32

namespace K32
open PySem PySem.Spec PyProof.Rows L2 GM TM
theorem pick_room {H : Hp} {q1 q2 q3 : Addr} {t1 t2 t3 b3 e : Int} (h0 : 0 ≤ e) (h : e < 3) (h1 : H q1 = some (.tup [.int t1, .int 1])) (r1 : Rm t1 1) (h2 : H q2 = some (.tup [.int t2, .int 1])) (r2 : Rm t2 1) (h3 : H q3 = some (.tup [.int t3, .int b3])) (r3 : Rm t3 b3) :
    ∃ q t b, atI [V.ref q1, V.ref q2, V.ref q3] e = some (.ref q) ∧ H q = some (.tup [.int t, .int b]) ∧ Rm t b := by
  obtain ⟨n, rfl⟩ := Int.eq_ofNat_of_zero_le h0
  have : n = 0 ∨ n = 1 ∨ n = 2 := by omega
  rcases this with rfl | rfl | rfl
  · exact ⟨q1, _, _, rfl, h1, r1⟩
  · exact ⟨q2, _, _, rfl, h2, r2⟩
  · exact ⟨q3, _, _, rfl, h3, r3⟩
section
variable {P : Program} {w : World} {K : PySem.W.Frag} {mg : Str → Option Value} {base : Heap}
theorem scBench : FnScope ["_law_script", "_law_wares_here", "_law_number", "_law_many", "_law_rooms", "_law_k", "_law_drawn"] ["_law_script", "_law_wares_here"] (defScope sBench) := ⟨rfl, rfl, rfl, by decide +kernel, rfl, by decide +kernel, by decide +kernel⟩
theorem ok_bench {f : Addr} {fd : FuncData} (F : Fun K "_law_bench" "_law_bench" sBench f fd) (T : Txt mg) (cC : Cal P w K mg base CX0 2 "_law_cell_at" ["_law_script", "_law_k"] (spCell K)) (cF : Cal P w K mg base CX0 2 "_law_free_bench" ["_law_script", "_law_wares_here"] (spBench K)) (cM : Cal P w K mg base CX0 2 "_law_mixed" ["_law_cell", "_law_k"] spMixed) (cU : Cal P w K mg base CX0 2 "_law_much" ["_law_number"] spMuch) (cA : Cal P w K mg base CX0 2 "_law_apart" ["_law_wares_here", "_law_cell", "_law_often"] (spApart K)) : FnOk P w K mg base CX0 3 f fd ["_law_script", "_law_wares_here"] (spBench K) := by
  refine F.ok scBench (fun vs H Q E h => ?_) (fun cdv A outer s H vs Q E hr h => ?_)
  · obtain ⟨_, _, _, _, rfl, _⟩ := h
    rfl
  · obtain ⟨a, ns, w, ws, rfl, ha, hw, six0, k⟩ := h
    refine ⟨_, (pss_cons (ps_if (pt_cmpR op_eq (pe_op op_mod (pe_cal cC hr rfl pass0 (pa_cons (pv 0) (pa_cons pe_int pa_nil))) pe_int) pe_int (nomark _))
        (pss_one (ps_ret (pe_cal cF hr rfl pass0 (pa_cons (pv 0) (pa_cons (pv 1) pa_nil)))))
        pss_nil)
      (pss_cons (ps_set (i := 2) scBench.nd rfl (Or.inl rfl) (pe_cal cM hr rfl pass0 (pa_cons (pe_cal cC hr rfl pass0 (pa_cons (pv 0) (pa_cons pe_int pa_nil))) (pa_cons pe_int pa_nil))))
      (pss_cons (ps_set (i := 3) scBench.nd rfl (Or.inl rfl) (pe_op op_add pe_int (pe_op op_mod (pv 2) (pe_ix ix_list (pe_lst (pa_cons pe_int (pa_cons pe_int (pa_cons pe_int (pa_cons pe_int pa_nil))))) (pe_op op_mod (pe_op op_fdivB (pv 2) pe_int) pe_int) (fun _ _ => rfl)))))
      (pss_cons (ps_set (i := 4) scBench.nd rfl (Or.inl rfl) (pe_lst pa_nil))
      (pss_cons (ps_for PassesOwn.never rfl (pi_range1 rfl T.range (pa_cons (pv 3) pa_nil)) (pg_name (i := 5) scBench.nd rfl (Or.inl rfl))
        (pss_cons (ps_set (i := 6) scBench.nd rfl (Or.inl rfl) (pe_cal cM hr rfl pass0 (pa_cons (pe_cal cC hr rfl pass0 (pa_cons (pv 0) (pa_cons pe_int pa_nil))) (pa_cons (pe_op op_add (pv 5) pe_int) pa_nil))))
        (pss_one (ps_expr (pe_bm PySem.F.plainAttrs_list PySem.F.slot_list_append PySem.F.type_list_append mt_append (pv 4) (pa_cons (pe_ix ix_list (pe_lst (pa_cons (pe_tup (pa_cons (pe_op op_add pe_int (pe_op op_mod (pe_op op_fdivB (pv 6) pe_int) pe_int)) (pa_cons pe_int pa_nil))) (pa_cons (pe_tup (pa_cons (pe_op op_powB pe_int pe_int) (pa_cons pe_int pa_nil))) (pa_cons (pe_cal cU hr rfl pass0 (pa_cons (pe_op op_fdivB (pv 6) pe_int) pa_nil)) pa_nil)))) (pe_op op_mod (pv 6) pe_int) (fun _ _ => rfl)) pa_nil))))))
      (pss_one (ps_ret (pe_tup (pa_cons (pe_callTy call_tuple_of rfl T.tup' bt_tuple (pa_cons (pv 4) pa_nil)) (pa_cons (pe_cal cA hr rfl pass0 (pa_cons (pv 1) (pa_cons (pe_cal cC hr rfl pass0 (pa_cons (pv 0) (pa_cons pe_int pa_nil))) (pa_cons (pe_op op_add pe_int (pe_op op_mod (pe_op op_fdivB (pv 2) pe_int) pe_int)) pa_nil)))) pa_nil)))))))))), ?_⟩
    refine ⟨_, rfl, a, ns, 0, rfl, ha, by decide, fun c => ⟨_, _, rfl, rfl, (by show (0 : Int) < 2; decide), rfl, _, rfl, ite2 (fun _ => ?_) (fun _ => ?_)⟩⟩
    · exact ⟨_, rfl, _, rfl, a, ns, w, ws, rfl, ha, hw, six0, k⟩
    refine ⟨_, rfl, a, ns, 1, rfl, ha, by decide, fun c1 => ⟨c1, 1, rfl, by decide, by decide, fun n n0 nl => ?_⟩⟩
    have e4 := emod_in (n / 16) (m := 4) (by decide)
    obtain ⟨m, hm, m1, m16⟩ := pick4 e4.1 e4.2
    have em := emod_in n (m := m) (by omega)
    refine ⟨_, rfl, (by show 4 ≤ sizeLine; decide), fun z hz => ⟨_, rfl, _, _, rfl, rfl, ⟨by decide, b9⟩, _, _, rfl, rfl, (by show (0 : Int) < 4; decide), z, _, _, _, rfl, rfl, SqL.of upd_same, hm, _, _, rfl, rfl, (by show 0 < m; omega), _, _, rfl, rfl, ?_⟩⟩
    have s1 : Same H (upd H z (.lst [.int 5, .int 5, .int 5, .int 16])) := Same.upd hz
    refine ⟨(by show 0 ≤ sizeLine; decide), fun d hd => ?_⟩
    have hd0 : H d = none := same_none s1 hd
    have s2 := s1.trans (Same.upd (o := .lst []) hd)
    refine ⟨_, rfl, _, rfl, by omega, by omega, ?_⟩
    refine for_range (fun i σ H' => ∃ (rs : List V) (v5 v6 : Option V), σ = [some (.ref a), some (.ref w), some (.int n), some (.int (1 + n % m)), some (.ref d), v5, v6] ∧ Same H H' ∧ H' d = some (.lst rs) ∧ rs.length = i ∧ RmsT H' rs)
      ⟨[], none, none, rfl, s2, upd_same, rfl, RmsT.nil⟩ ?_ ?_
    · rintro i σ H2 hi ⟨rs, v5, v6, rfl, s3, hd2, rl, rm⟩
      refine ⟨_, rfl, a, ns, 1, rfl, s3.seq ha, by decide, fun c2 => ⟨_, rfl, _, _, rfl, rfl, c2, _, rfl, by omega, by omega, fun g g0 gl => ?_⟩⟩
      have e40 := emod_in (g / 8) (m := 40) (by decide)
      have e3 := emod_in g (m := 3) (by decide)
      have g8 : 0 ≤ g / 8 := Int.ediv_nonneg g0 (by decide)
      have g8l : g / 8 < 2147483647 := Int.lt_of_le_of_lt (Int.ediv_le_self _ g0) gl
      refine ⟨_, rfl, .inl ⟨rfl, _, SqL.of hd2⟩, _, rfl, _, _, rfl, rfl, ⟨by decide, b9⟩, _, _, rfl, rfl, (by show (0 : Int) < 40; decide), _, _, rfl, rfl, (by show 2 ≤ sizeLine; decide), fun q1 h1 => ?_⟩
      have t1 := Same.upd (o := .tup [.int (1 + g / 8 % 40), .int 1]) h1
      refine ⟨_, _, rfl, rfl, ⟨by decide, by decide, bk⟩, (by show 2 ≤ sizeLine; decide), fun q2 h2 => ?_⟩
      have t2 := Same.upd (o := .tup [.int ((10 : Int) ^ Int.toNat 18), .int 1]) h2
      refine ⟨_, rfl, _, _, rfl, rfl, ⟨by decide, b9⟩, g / 8, rfl, g8, g8l, fun t b q3 H3 r3 t3 h3 h3' => ⟨(by show 3 ≤ sizeLine; decide), fun y hy => ?_⟩⟩
      have t4 := Same.upd (o := .lst [.ref q1, .ref q2, .ref q3]) hy
      have tt := ((t1.trans t2).trans t3).trans t4
      obtain ⟨q, t', b', hq, hq', rq⟩ := pick_room e3.1 e3.2 (t4 _ _ (t3 _ _ (t2 _ _ upd_same))) (rm_one (by omega) (bt_lt 100 (c := 2000000000000000000) (by omega) (by omega))) (t4 _ _ (t3 _ _ upd_same)) (rm_one (by rw [e18]; decide) (by rw [e18]; exact bt_lt 100 (c := 2000000000000000000) (by decide) (by decide))) (t4 _ _ h3') r3
      have hd3 := tt _ _ hd2
      have qd : q ≠ d := fun e => by rw [e, hd3] at hq'; cases hq'
      refine ⟨_, rfl, _, _, rfl, rfl, (by show (0 : Int) < 3; decide), y, _, _, _, rfl, rfl, SqL.of upd_same, hq, d, rs, _, rfl, rfl, hd3, small1000 (by omega), ?_⟩
      exact ⟨rs ++ [.ref q], _, _, rfl, same_own (s3.trans tt) hd0, upd_same, by rw [List.length_append, rl]; rfl, ((rm.keep tt.tk).keep (Tk.lst hd3)).add (by rw [upd_ne qd]; exact hq') rq⟩
    · rintro σ H2 ⟨rs, v5, v6, rfl, s3, hd2, rl, rm⟩
      have e60 := emod_in (n / 64) (m := 60) (by decide)
      refine ⟨_, rfl, d, rs, rfl, .inl ⟨SqL.of hd2, fun r hr' => ?_⟩⟩
      have t1 := Same.upd (o := .tup rs) hr'
      refine ⟨_, rfl, _, rfl, a, ns, 2, rfl, (s3.trans t1).seq ha, by decide, fun c3 => ⟨_, rfl, _, _, rfl, rfl, ⟨by decide, b9⟩, _, _, rfl, rfl, (by show (0 : Int) < 60; decide), _, _, rfl, rfl, ?_⟩⟩
      refine ⟨w, ws, c3, _, rfl, (s3.trans t1).seq hw, six0, by omega, fun q us ps H3 t2 hq0 hq pt g => ⟨(by show 2 ≤ sizeLine; decide), fun p hp => ?_⟩⟩
      have t3 := Same.upd (o := .tup [.ref r, .ref q]) hp
      exact k p r q rs us ps _ (((s3.trans t1).trans t2).trans t3) ⟨upd_same, t3 _ _ (t2 _ _ upd_same), ((rm.keep t1.tk).keep t2.tk).keep t3.tk, by omega, by omega, t3 _ _ hq, pt.keep t3.tk, g⟩
end
end K32

namespace K32
open PySem PySem.Spec PyProof.Rows L2 GM TM
/-- the first pair of which both are names -/
def pairOf : List V → List (Str × Str) → List Str → V
  | u :: us, p :: ps, xs => if p.1 ∈ xs ∧ p.2 ∈ xs then u else pairOf us ps xs
  | _, _, _ => .non
theorem pairOf_step {us : List V} {ps : List (Str × Str)} {xs : List Str} {i : Nat} {u : V} {p : Str × Str} (hu : us[i]? = some u) (hp : ps[i]? = some p) : pairOf (us.drop i) (ps.drop i) xs = if p.1 ∈ xs ∧ p.2 ∈ xs then u else pairOf (us.drop (i + 1)) (ps.drop (i + 1)) xs := by
  obtain ⟨h1, e1⟩ := List.getElem?_eq_some_iff.mp hu
  obtain ⟨h2, e2⟩ := List.getElem?_eq_some_iff.mp hp
  rw [List.drop_eq_getElem_cons h1, List.drop_eq_getElem_cons h2, e1, e2]
  rfl
theorem pairOf_nil {ps : List (Str × Str)} {xs : List Str} : pairOf [] ps xs = .non := by
  cases ps <;> rfl
def spPairIn (K : PySem.W.Frag) : Sp := fun vs H Q _ => ∃ (p r q : Addr) (rs us : List V) (ps : List (Str × Str)) (nm : Addr) (xs : List Str), vs = [.ref p, .ref nm] ∧ Bn H p r q rs us ps ∧ SqT K H nm (xs.map V.str) ∧ Q (pairOf us ps xs) H
section
variable {P : Program} {w : World} {K : PySem.W.Frag} {mg : Str → Option Value} {base : Heap}
theorem scPairIn : FnScope ["bench", "names", "pair"] ["bench", "names"] (defScope sPairIn) := ⟨rfl, rfl, rfl, by decide +kernel, rfl, by decide +kernel, by decide +kernel⟩
theorem ok_pairin {f : Addr} {fd : FuncData} (F : Fun K "pair_in" "pair_in" sPairIn f fd) : FnOk P w K mg base CX0 1 f fd ["bench", "names"] (spPairIn K) := by
  refine F.ok scPairIn (fun vs H Q E h => ?_) (fun cdv A outer s H vs Q E hr h => ?_)
  · obtain ⟨_, _, _, _, _, _, _, _, rfl, _⟩ := h
    rfl
  · obtain ⟨p, r, q, rs, us, ps, nm, xs, rfl, bn, hn, k⟩ := h
    refine ⟨_, (pss_cons (ps_for PassesOwn.never rfl (pi_tup (pit 0 1)) (pg_name (i := 2) scPairIn.nd rfl (Or.inl rfl))
        (pss_one (ps_if (PW.pt (pw_and (pt_cmpR op_in_seq (pit 2 0) (pv 1) rfl) (pw_and1 (pt_cmpR op_in_seq (pit 2 1) (pv 1) rfl)))) (pss_one (ps_ret (pv 2))) pss_nil)))
      (pss_one (ps_ret pe_non))), ?_⟩
    have hq : SqT K H q us := SqT.of bn.hq
    refine ⟨p, _, _, rfl, SqT.of bn.hp, rfl, q, rfl, ⟨_, hq⟩, ?_⟩
    refine for_tup (xs := us) (fun i σ H' => ∃ v2 : Option V, σ = [some (.ref p), some (.ref nm), v2] ∧ pairOf us ps xs = pairOf (us.drop i) (ps.drop i) xs ∧ H' = H) ⟨none, rfl, rfl, rfl⟩ ?_ ?_ ?_
    · rintro i σ H' hi ⟨_, rfl, _, rfl⟩
      exact hq
    · rintro i v σ H2 hv ⟨v2, rfl, e, rfl⟩
      obtain ⟨y, hy⟩ : ∃ y, ps[i]? = some y := ⟨_, List.getElem?_eq_getElem (by rw [← bn.pt.1]; exact (List.getElem?_eq_some_iff.mp hv).1)⟩
      obtain ⟨z, rfl, hz⟩ := bn.pt.2 i v y hv hy
      have hz' : SqT K H2 z [.str y.1, .str y.2] := SqT.of hz
      rw [pairOf_step hv hy] at e
      refine ⟨z, _, _, rfl, hz', rfl, _, rfl, nm, _, rfl, .inr hn, rfl, flat_strs xs, _, rfl, ite2 (fun h1 => ?_) (fun h1 => ?_)⟩
      · have m1 := in_strs.mp h1
        refine ⟨z, _, _, rfl, hz', rfl, _, rfl, nm, _, rfl, .inr hn, rfl, flat_strs xs, _, rfl, ite2 (fun h2 => ?_) (fun h2 => ?_)⟩
        · rw [if_pos ⟨m1, in_strs.mp h2⟩] at e
          rw [e] at k
          exact ⟨_, rfl, k⟩
        · rw [if_neg fun z => h2 (in_strs.mpr z.2)] at e
          exact ⟨_, rfl, e, rfl⟩
      · rw [if_neg fun z => h1 (in_strs.mpr z.1)] at e
        exact ⟨_, rfl, e, rfl⟩
    · rintro σ H2 ⟨v2, rfl, e, rfl⟩
      rw [List.drop_length, pairOf_nil] at e
      rw [e] at k
      exact k
theorem scPairL : FnScope ["_law_bench_here", "_law_names_here", "_law_pair_here"] ["_law_bench_here", "_law_names_here"] (defScope sPairL) := ⟨rfl, rfl, rfl, by decide +kernel, rfl, by decide +kernel, by decide +kernel⟩
theorem ok_pairl {f : Addr} {fd : FuncData} (F : Fun K "_law_pair" "_law_pair" sPairL f fd) : FnOk P w K mg base CX0 1 f fd ["_law_bench_here", "_law_names_here"] (spPairIn K) := by
  refine F.ok scPairL (fun vs H Q E h => ?_) (fun cdv A outer s H vs Q E hr h => ?_)
  · obtain ⟨_, _, _, _, _, _, _, _, rfl, _⟩ := h
    rfl
  · obtain ⟨p, r, q, rs, us, ps, nm, xs, rfl, bn, hn, k⟩ := h
    refine ⟨_, (pss_cons (ps_for PassesOwn.never rfl (pi_tup (pit 0 1)) (pg_name (i := 2) scPairL.nd rfl (Or.inl rfl))
        (pss_one (ps_if (PW.pt (pw_and (pt_cmpR op_in_seq (pit 2 0) (pv 1) rfl) (pw_and1 (pt_cmpR op_in_seq (pit 2 1) (pv 1) rfl)))) (pss_one (ps_ret (pv 2))) pss_nil)))
      (pss_one (ps_ret pe_non))), ?_⟩
    have hq : SqT K H q us := SqT.of bn.hq
    refine ⟨p, _, _, rfl, SqT.of bn.hp, rfl, q, rfl, ⟨_, hq⟩, ?_⟩
    refine for_tup (xs := us) (fun i σ H' => ∃ v2 : Option V, σ = [some (.ref p), some (.ref nm), v2] ∧ pairOf us ps xs = pairOf (us.drop i) (ps.drop i) xs ∧ H' = H) ⟨none, rfl, rfl, rfl⟩ ?_ ?_ ?_
    · rintro i σ H' hi ⟨_, rfl, _, rfl⟩
      exact hq
    · rintro i v σ H2 hv ⟨v2, rfl, e, rfl⟩
      obtain ⟨y, hy⟩ : ∃ y, ps[i]? = some y := ⟨_, List.getElem?_eq_getElem (by rw [← bn.pt.1]; exact (List.getElem?_eq_some_iff.mp hv).1)⟩
      obtain ⟨z, rfl, hz⟩ := bn.pt.2 i v y hv hy
      have hz' : SqT K H2 z [.str y.1, .str y.2] := SqT.of hz
      rw [pairOf_step hv hy] at e
      refine ⟨z, _, _, rfl, hz', rfl, _, rfl, nm, _, rfl, .inr hn, rfl, flat_strs xs, _, rfl, ite2 (fun h1 => ?_) (fun h1 => ?_)⟩
      · have m1 := in_strs.mp h1
        refine ⟨z, _, _, rfl, hz', rfl, _, rfl, nm, _, rfl, .inr hn, rfl, flat_strs xs, _, rfl, ite2 (fun h2 => ?_) (fun h2 => ?_)⟩
        · rw [if_pos ⟨m1, in_strs.mp h2⟩] at e
          rw [e] at k
          exact ⟨_, rfl, k⟩
        · rw [if_neg fun z => h2 (in_strs.mpr z.2)] at e
          exact ⟨_, rfl, e, rfl⟩
      · rw [if_neg fun z => h1 (in_strs.mpr z.1)] at e
        exact ⟨_, rfl, e, rfl⟩
    · rintro σ H2 ⟨v2, rfl, e, rfl⟩
      rw [List.drop_length, pairOf_nil] at e
      rw [e] at k
      exact k
end
end K32

namespace K32
open PySem PySem.Spec PyProof.Rows L2 GM TM
def spLow : Sp := fun vs H Q _ => ∃ t b : Int, vs = [.int t, .int b] ∧ 0 ≤ t ∧ 1 ≤ b ∧ Bt 9000 b ∧ RetT H Q [t / G t b, b / G t b]
structure Tw (K : PySem.W.Frag) (H : Hp) (p q : Addr) (t1 b1 t2 b2 : Int) : Prop where
  sp : SqT K H p [.int t1, .int b1]
  sq : SqT K H q [.int t2, .int b2]
  a1 : Amt t1 b1
  a2 : Amt t2 b2
  st1 : Bt 4000 t1
  sb1 : Bt 4000 b1
  st2 : Bt 4000 t2
  sb2 : Bt 4000 b2
def spLess (K : PySem.W.Frag) : Sp := fun vs H Q _ => ∃ (p q : Addr) (t1 b1 t2 b2 : Int), vs = [.ref p, .ref q] ∧ Tw K H p q t1 b1 t2 b2 ∧ Q (.bl (decide (t1 * b2 < t2 * b1))) H
def Pr (H : Hp) (v : V) (x : Str × Int × Int) : Prop := ∃ p q, v = .ref p ∧ H p = some (.tup [.str x.1, .ref q]) ∧ H q = some (.tup [.int x.2.1, .int x.2.2])
theorem Pr.keep {H H' : Hp} {v : V} {x : Str × Int × Int} (h : Pr H v x) (k : Tk H H') : Pr H' v x := by
  obtain ⟨p, q, e, h1, h2⟩ := h
  exact ⟨p, q, e, k _ _ h1, k _ _ h2⟩
inductive PrL (H : Hp) : List V → List (Str × Int × Int) → Prop where
  | nil : PrL H [] []
  | cons {v x vs xs} : Pr H v x → PrL H vs xs → PrL H (v :: vs) (x :: xs)
theorem PrL.keep {H H' : Hp} {vs : List V} {xs : List (Str × Int × Int)} (h : PrL H vs xs) (k : Tk H H') : PrL H' vs xs := by
  induction h with
  | nil => exact .nil
  | cons p _ ih => exact .cons (p.keep k) ih
theorem PrL.snoc {H : Hp} {vs : List V} {xs : List (Str × Int × Int)} {v : V} {x : Str × Int × Int} (h : PrL H vs xs) (p : Pr H v x) : PrL H (vs ++ [v]) (xs ++ [x]) := by
  induction h with
  | nil => exact .cons p .nil
  | cons q _ ih => exact .cons q ih
theorem PrL.length {H : Hp} {vs : List V} {xs : List (Str × Int × Int)} (h : PrL H vs xs) : vs.length = xs.length := by
  induction h with
  | nil => rfl
  | cons _ _ ih => simp [ih]
structure Two (K : PySem.W.Frag) (H : Hp) (p q : Addr) (t1 b1 t2 b2 : Int) : Prop where
  sp : SqT K H p [.int t1, .int b1]
  sq : H q = some (.tup [.int t2, .int b2])
  ht1 : 0 ≤ t1
  hb1 : 1 ≤ b1
  am : Amt t2 b2
  st1 : Bt 4000 t1
  sb1 : Bt 4000 b1
  st2 : Bt 4000 t2
  sb2 : Bt 4000 b2
def spPlus (K : PySem.W.Frag) : Sp := fun vs H Q _ => ∃ (p q : Addr) (t1 b1 t2 b2 : Int), vs = [.ref p, .ref q] ∧ Two K H p q t1 b1 t2 b2 ∧
  RetT H Q [(t1 * b2 + t2 * b1) / G (t1 * b2 + t2 * b1) (b1 * b2), (b1 * b2) / G (t1 * b2 + t2 * b1) (b1 * b2)]
theorem PrL.get {H : Hp} {vs : List V} {xs : List (Str × Int × Int)} (h : PrL H vs xs) : ∀ {i : Nat} {v : V}, vs[i]? = some v → ∃ x, xs[i]? = some x ∧ Pr H v x := by
  induction h with
  | nil => intro i v e; simp at e
  | cons p _ ih =>
    intro i v e
    cases i with
    | zero => cases e; exact ⟨_, rfl, p⟩
    | succ i => exact ih (by simpa using e)
def nOf (M : Int) (x : Str × Int × Int) : Int := x.2.1 * (M / x.2.2)
def sumN (M : Int) (xs : List (Str × Int × Int)) : Int := (xs.map (nOf M)).sum
theorem sumN_snoc {M : Int} {xs : List (Str × Int × Int)} {i : Nat} {x : Str × Int × Int} (h : xs[i]? = some x) : sumN M (xs.take (i + 1)) = sumN M (xs.take i) + nOf M x := by
  unfold sumN
  rw [List.take_add_one, h, List.map_append, List.sum_append]
  simp
theorem frSmall {M t b N : Int} (hM : 0 < M) (h : Fr M t b N) : t ≤ N ∧ b ≤ M := by
  have hb := Int.le_of_dvd hM h.dvd
  refine ⟨?_, hb⟩
  have n0 := h.nonneg hM
  have := Int.mul_le_mul_of_nonneg_left hb n0
  rw [← h.e] at this
  exact Int.le_of_mul_le_mul_right this hM
def Over (M : Int) (xs : List (Str × Int × Int)) : Prop := ∀ x ∈ xs, Amt x.2.1 x.2.2 ∧ x.2.2 ∣ M
def spWholeM (K : PySem.W.Frag) : Sp := fun vs H Q _ => ∃ (m : Addr) (us : List V) (xs : List (Str × Int × Int)) (M : Int), vs = [.ref m] ∧ SqT K H m us ∧ PrL H us xs ∧ Over M xs ∧ 0 < M ∧ Bt 3000 M ∧ (∀ i, Bt 3000 (sumN M (xs.take i))) ∧
  ∀ (f : Addr) (t b : Int) H', Same H H' → SqT K H' f [.int t, .int b] → Fr M t b (sumN M xs) → Q (.ref f) H'
section
variable {P : Program} {w : World} {K : PySem.W.Frag} {mg : Str → Option Value} {base : Heap}
theorem scLow : FnScope ["top", "bottom", "divisor"] ["top", "bottom"] (defScope sLow) := ⟨rfl, rfl, rfl, by decide +kernel, rfl, by decide +kernel, by decide +kernel⟩
theorem ok_low {f : Addr} {fd : FuncData} (F : Fun K "lowest_terms" "lowest_terms" sLow f fd) (cG : Cal P w K mg base CX0 1 "common_divisor" ["one", "other"] spGcd) : FnOk P w K mg base CX0 2 f fd ["top", "bottom"] spLow := by
  refine F.ok scLow (fun vs H Q E h => ?_) (fun cdv A outer s H vs Q E hr h => ?_)
  · obtain ⟨a, b, rfl, _⟩ := h
    rfl
  · obtain ⟨t, b, rfl, ht, hb, hs, k⟩ := h
    refine ⟨_, pss_cons (ps_set (i := 2) scLow.nd rfl (Or.inl rfl) (pe_cal cG hr rfl pass0 (pa_cons (pv 0) (pa_cons (pv 1) pa_nil))))
      (pss_one (ps_ret (pe_tup (pa_cons (pe_op op_fdivB (pv 0) (pv 2)) (pa_cons (pe_op op_fdivB (pv 1) (pv 2)) pa_nil))))), ?_⟩
    refine ⟨_, rfl, _, rfl, t, b, rfl, ht, by omega, ?_⟩
    have g := low_small (t := t) hb hs
    refine ⟨_, rfl, _, rfl, _, _, rfl, rfl, g, _, rfl, _, rfl, _, _, rfl, rfl, g, (by show 2 ≤ sizeLine; decide), fun p hp => ?_⟩
    exact k p _ (Same.upd hp) upd_same
theorem scLess : FnScope ["one", "other"] ["one", "other"] (defScope sLess) := ⟨rfl, rfl, rfl, by decide +kernel, rfl, by decide +kernel, by decide +kernel⟩
theorem ok_less {f : Addr} {fd : FuncData} (F : Fun K "less" "less" sLess f fd) : FnOk P w K mg base CX0 1 f fd ["one", "other"] (spLess K) := by
  refine F.ok scLess (fun vs H Q E h => ?_) (fun cdv A outer s H vs Q E hr h => ?_)
  · obtain ⟨_, _, _, _, _, _, rfl, _⟩ := h
    rfl
  · obtain ⟨p, q, t1, b1, t2, b2, rfl, T, k⟩ := h
    refine ⟨_, pss_one (ps_ret (pe_cmpR op_lt (pe_op op_mulB (pit 0 0) (pit 1 1)) (pe_op op_mulB (pit 1 0) (pit 0 1)) (nomark _))), ?_⟩
    refine ⟨p, _, _, rfl, T.sp, rfl, q, _, _, rfl, T.sq, rfl, _, _, rfl, rfl, ⟨b6 T.st1, b6 T.sb2⟩, q, _, _, rfl, T.sq, rfl, p, _, _, rfl, T.sp, rfl, _, _, rfl, rfl, ⟨b6 T.st2, b6 T.sb1⟩, _, _, rfl, rfl, k⟩
theorem Two.botS {K : PySem.W.Frag} {H : Hp} {p q : Addr} {t1 b1 t2 b2 : Int} (T : Two K H p q t1 b1 t2 b2) : 1 ≤ b1 * b2 ∧ Bt 8000 (b1 * b2) := by
  have := Int.mul_le_mul T.hb1 T.am.b1 (by decide) (by have := T.hb1; omega)
  exact ⟨by omega, T.sb1.mul T.sb2⟩
theorem scPlus : FnScope ["one", "other"] ["one", "other"] (defScope sPlus) := ⟨rfl, rfl, rfl, by decide +kernel, rfl, by decide +kernel, by decide +kernel⟩
theorem ok_plus {f aN : Addr} {fd : FuncData} (F : Fun K "plus" "plus" sPlus f fd) (mN : mg "NOUGHT" = some (.ref aN)) (sN : ∀ H : Hp, SqT K H aN [.int 0, .int 1]) (cL : Cal P w K mg base CX0 2 "lowest_terms" ["top", "bottom"] spLow) : FnOk P w K mg base CX0 3 f fd ["one", "other"] (spPlus K) := by
  refine F.ok scPlus (fun vs H Q E h => ?_) (fun cdv A outer s H vs Q E hr h => ?_)
  · obtain ⟨_, _, _, _, _, _, rfl, _⟩ := h
    rfl
  · obtain ⟨p, q, t1, b1, t2, b2, rfl, T, k⟩ := h
    refine ⟨_, pss_cons (ps_if (pt_cmpR (op_eqI hr.units) (pv 0) (pe_glob (v := .ref aN) rfl mN rfl) (nomark _)) (pss_one (ps_ret (pv 1))) pss_nil)
      (pss_one (ps_ret (pe_cal cL hr rfl pass0 (pa_cons (pe_op op_add (pe_op op_mulB (pit 0 0) (pit 1 1)) (pe_op op_mulB (pit 1 0) (pit 0 1))) (pa_cons (pe_op op_mulB (pit 0 1) (pit 1 1)) pa_nil))))), ?_⟩
    have bs := T.botS
    have hs := SqT.of (K := K) T.sq
    have m1 := Int.mul_nonneg T.ht1 (show 0 ≤ b2 by have := T.am.b1; omega)
    have m2 := Int.mul_nonneg T.am.t0 (show 0 ≤ b1 by have := T.hb1; omega)
    have a0 := T.am.t0
    have a1 := T.am.b1
    refine ⟨_, rfl, p, aN, [t1, b1], [0, 1], rfl, rfl, T.sp, sN H, _, rfl, ite2 (fun hc => ?_) (fun _ => ?_)⟩
    · have e := of_decide_eq_true hc
      injection e with e1 e
      injection e with e2 e
      subst e1 e2
      refine ⟨_, rfl, ?_⟩
      have u := low_unique (t := 0 * b2 + t2 * 1) (b := 1 * b2) (by omega) (by omega) T.am (by rw [Int.zero_mul, Int.zero_add, Int.one_mul, Int.mul_one])
      rw [u.1, u.2] at k
      exact k q H (Same.refl H) T.sq
    · refine ⟨p, _, _, rfl, T.sp, rfl, q, _, _, rfl, hs, rfl, _, _, rfl, rfl, ⟨b6 T.st1, b6 T.sb2⟩, q, _, _, rfl, hs, rfl, p, _, _, rfl, T.sp, rfl, _, _, rfl, rfl, ⟨b6 T.st2, b6 T.sb1⟩, _, _, rfl, rfl, ?_⟩
      exact ⟨p, _, _, rfl, T.sp, rfl, q, _, _, rfl, hs, rfl, _, _, rfl, rfl, ⟨b6 T.sb1, b6 T.sb2⟩, _, _, rfl, by omega, bs.1, bs.2.mono (by decide), k⟩
theorem scWholeM : FnScope ["one", "found", "ware", "part"] ["one"] (defScope sWholeM) := ⟨rfl, rfl, rfl, by decide +kernel, rfl, by decide +kernel, by decide +kernel⟩
theorem ok_wholem {f aN : Addr} {fd : FuncData} (F : Fun K "whole" "whole" sWholeM f fd) (mN : mg "NOUGHT" = some (.ref aN)) (sN : ∀ H : Hp, SqT K H aN [.int 0, .int 1]) (cP : Cal P w K mg base CX0 3 "plus" ["one", "other"] (spPlus K)) : FnOk P w K mg base CX0 4 f fd ["one"] (spWholeM K) := by
  refine F.ok scWholeM (fun vs H Q E h => ?_) (fun cdv A outer s H vs Q E hr h => ?_)
  · obtain ⟨_, _, _, _, rfl, _⟩ := h
    rfl
  · obtain ⟨m, us, xs, M, rfl, hm, pr, ov, M0, bM, bS, k⟩ := h
    refine ⟨_, (pss_cons (ps_set (i := 1) scWholeM.nd rfl (Or.inl rfl) (pe_glob (v := .ref aN) rfl mN rfl))
      (pss_cons (ps_for PassesOwn.never rfl (pi_tup (pv 0)) (pg_tup rfl (pgs_cons (pg_name (i := 2) scWholeM.nd rfl (Or.inl rfl)) (pgs_cons (pg_name (i := 3) scWholeM.nd rfl (Or.inl rfl)) pgs_nil)))
        (pss_one (ps_set (i := 1) scWholeM.nd rfl (Or.inl rfl) (pe_cal cP hr rfl pass0 (pa_cons (pv 1) (pa_cons (pv 3) pa_nil))))))
      (pss_one (ps_ret (pv 1))))), ?_⟩
    refine ⟨_, rfl, m, rfl, ⟨_, hm⟩, ?_⟩
    refine for_tup (xs := us) (fun i σ H' => ∃ (g : Addr) (t b : Int) (v2 v3 : Option V), σ = [some (.ref m), some (.ref g), v2, v3] ∧ SqT K H' g [.int t, .int b] ∧ Fr M t b (sumN M (xs.take i)) ∧ Same H H')
      ⟨aN, 0, 1, none, none, rfl, sN H, Fr.zero, Same.refl H⟩ ?_ ?_ ?_
    · rintro i σ H' hi ⟨_, _, _, _, _, rfl, _, _, s2⟩
      exact s2.tup hm
    · rintro i v σ H2 hv ⟨g, t, b, v2, v3, rfl, hg, fr, s2⟩
      obtain ⟨x, hx, p, q, rfl, h1, h2⟩ := pr.get hv
      refine ⟨p, _, rfl, SqT.of (s2 _ _ h1), rfl, _, _, rfl, _, _, rfl, rfl, ?_⟩
      obtain ⟨am, dv⟩ := ov x (List.mem_of_getElem? hx)
      have frx : Fr M x.2.1 x.2.2 (nOf M x) := Fr.of am dv
      have sm := frSmall M0 fr
      have smx := frSmall M0 frx
      have n1 := fr.nonneg M0
      have n2 := frx.nonneg M0
      have fb := fr.am
      have bN := bS i
      have bN1 := bS (i + 1)
      rw [sumN_snoc hx] at bN1
      have bx : Bt 3000 (nOf M x) := bN1.le n2 (by omega)
      refine ⟨_, rfl, _, rfl, g, q, t, b, x.2.1, x.2.2, rfl, ⟨hg, s2 _ _ h2, fb.t0, fb.b1, am, (bN.le fb.t0 sm.1).mono (by decide), (bM.le (by have := fb.b1; omega) sm.2).mono (by decide), (bx.le am.t0 smx.1).mono (by decide), (bM.le (by have := am.b1; omega) smx.2).mono (by decide)⟩, fun r H3 s3 h3 => ?_⟩
      refine ⟨r, _, _, _, _, rfl, SqT.of h3, ?_, s2.trans s3⟩
      rw [sumN_snoc hx]
      exact fr.plus frx
    · rintro σ H2 ⟨g, t, b, v2, v3, rfl, hg, fr, s2⟩
      rw [pr.length, List.take_length] at fr
      exact ⟨_, rfl, k g t b H2 s2 hg fr⟩
end
end K32

namespace K32
open PySem PySem.Spec PyProof.Rows L2 GM TM
theorem Tw.bot {K : PySem.W.Frag} {H : Hp} {p q : Addr} {t1 b1 t2 b2 : Int} (T : Tw K H p q t1 b1 t2 b2) : 1 ≤ b1 * b2 ∧ Bt 8000 (b1 * b2) := by
  have := Int.mul_le_mul T.a1.b1 T.a2.b1 (by decide) (by have := T.a1.b1; omega)
  exact ⟨by omega, T.sb1.mul T.sb2⟩
theorem Tw.nn {K : PySem.W.Frag} {H : Hp} {p q : Addr} {t1 b1 t2 b2 : Int} (T : Tw K H p q t1 b1 t2 b2) : 0 ≤ t1 * b2 ∧ 0 ≤ t2 * b1 ∧ 0 ≤ t1 * t2 :=
  ⟨Int.mul_nonneg T.a1.t0 (by have := T.a2.b1; omega), Int.mul_nonneg T.a2.t0 (by have := T.a1.b1; omega), Int.mul_nonneg T.a1.t0 T.a2.t0⟩
def spAdd (K : PySem.W.Frag) : Sp := fun vs H Q _ => ∃ (p q : Addr) (t1 b1 t2 b2 : Int), vs = [.ref p, .ref q] ∧ Tw K H p q t1 b1 t2 b2 ∧
  RetT H Q [(t1 * b2 + t2 * b1) / G (t1 * b2 + t2 * b1) (b1 * b2), (b1 * b2) / G (t1 * b2 + t2 * b1) (b1 * b2)]
def spTake (K : PySem.W.Frag) : Sp := fun vs H Q _ => ∃ (p q : Addr) (t1 b1 t2 b2 : Int), vs = [.ref p, .ref q] ∧ Tw K H p q t1 b1 t2 b2 ∧ t2 * b1 ≤ t1 * b2 ∧
  RetT H Q [(t1 * b2 - t2 * b1) / G (t1 * b2 - t2 * b1) (b1 * b2), (b1 * b2) / G (t1 * b2 - t2 * b1) (b1 * b2)]
def spBy (K : PySem.W.Frag) : Sp := fun vs H Q _ => ∃ (p q : Addr) (t1 b1 t2 b2 : Int), vs = [.ref p, .ref q] ∧ Tw K H p q t1 b1 t2 b2 ∧
  RetT H Q [(t1 * t2) / G (t1 * t2) (b1 * b2), (b1 * b2) / G (t1 * t2) (b1 * b2)]
section
variable {P : Program} {w : World} {K : PySem.W.Frag} {mg : Str → Option Value} {base : Heap}
theorem scAdd : FnScope ["_law_one", "_law_other"] ["_law_one", "_law_other"] (defScope sAdd) := ⟨rfl, rfl, rfl, by decide +kernel, rfl, by decide +kernel, by decide +kernel⟩
theorem ok_add {f : Addr} {fd : FuncData} (F : Fun K "_law_add" "_law_add" sAdd f fd) (cL : Cal P w K mg base CX0 1 "_law_lowest" ["_law_top", "_law_bottom"] spLowest) : FnOk P w K mg base CX0 2 f fd ["_law_one", "_law_other"] (spAdd K) := by
  refine F.ok scAdd (fun vs H Q E h => ?_) (fun cdv A outer s H vs Q E hr h => ?_)
  · obtain ⟨_, _, _, _, _, _, rfl, _⟩ := h
    rfl
  · obtain ⟨p, q, t1, b1, t2, b2, rfl, T, k⟩ := h
    refine ⟨_, pss_one (ps_ret (pe_cal cL hr rfl pass0 (pa_cons (pe_op op_add (pe_op op_mulB (pit 0 0) (pit 1 1)) (pe_op op_mulB (pit 1 0) (pit 0 1))) (pa_cons (pe_op op_mulB (pit 0 1) (pit 1 1)) pa_nil)))), ?_⟩
    have nn := T.nn
    refine ⟨p, _, _, rfl, T.sp, rfl, q, _, _, rfl, T.sq, rfl, _, _, rfl, rfl, ⟨b6 T.st1, b6 T.sb2⟩, q, _, _, rfl, T.sq, rfl, p, _, _, rfl, T.sp, rfl, _, _, rfl, rfl, ⟨b6 T.st2, b6 T.sb1⟩, _, _, rfl, rfl, ?_⟩
    exact ⟨p, _, _, rfl, T.sp, rfl, q, _, _, rfl, T.sq, rfl, _, _, rfl, rfl, ⟨b6 T.sb1, b6 T.sb2⟩, _, _, rfl, by omega, T.bot.1, T.bot.2.mono (by decide), fun z H' s _ e => k z H' s e⟩
theorem scTake : FnScope ["_law_one", "_law_other"] ["_law_one", "_law_other"] (defScope sTake) := ⟨rfl, rfl, rfl, by decide +kernel, rfl, by decide +kernel, by decide +kernel⟩
theorem ok_take {f : Addr} {fd : FuncData} (F : Fun K "_law_take" "_law_take" sTake f fd) (cL : Cal P w K mg base CX0 1 "_law_lowest" ["_law_top", "_law_bottom"] spLowest) : FnOk P w K mg base CX0 2 f fd ["_law_one", "_law_other"] (spTake K) := by
  refine F.ok scTake (fun vs H Q E h => ?_) (fun cdv A outer s H vs Q E hr h => ?_)
  · obtain ⟨_, _, _, _, _, _, rfl, _⟩ := h
    rfl
  · obtain ⟨p, q, t1, b1, t2, b2, rfl, T, le, k⟩ := h
    refine ⟨_, pss_one (ps_ret (pe_cal cL hr rfl pass0 (pa_cons (pe_op op_sub (pe_op op_mulB (pit 0 0) (pit 1 1)) (pe_op op_mulB (pit 1 0) (pit 0 1))) (pa_cons (pe_op op_mulB (pit 0 1) (pit 1 1)) pa_nil)))), ?_⟩
    refine ⟨p, _, _, rfl, T.sp, rfl, q, _, _, rfl, T.sq, rfl, _, _, rfl, rfl, ⟨b6 T.st1, b6 T.sb2⟩, q, _, _, rfl, T.sq, rfl, p, _, _, rfl, T.sp, rfl, _, _, rfl, rfl, ⟨b6 T.st2, b6 T.sb1⟩, _, _, rfl, rfl, ?_⟩
    exact ⟨p, _, _, rfl, T.sp, rfl, q, _, _, rfl, T.sq, rfl, _, _, rfl, rfl, ⟨b6 T.sb1, b6 T.sb2⟩, _, _, rfl, by omega, T.bot.1, T.bot.2.mono (by decide), fun z H' s _ e => k z H' s e⟩
theorem scBy : FnScope ["_law_one", "_law_other"] ["_law_one", "_law_other"] (defScope sBy) := ⟨rfl, rfl, rfl, by decide +kernel, rfl, by decide +kernel, by decide +kernel⟩
theorem ok_by {f : Addr} {fd : FuncData} (F : Fun K "_law_by" "_law_by" sBy f fd) (cL : Cal P w K mg base CX0 1 "_law_lowest" ["_law_top", "_law_bottom"] spLowest) : FnOk P w K mg base CX0 2 f fd ["_law_one", "_law_other"] (spBy K) := by
  refine F.ok scBy (fun vs H Q E h => ?_) (fun cdv A outer s H vs Q E hr h => ?_)
  · obtain ⟨_, _, _, _, _, _, rfl, _⟩ := h
    rfl
  · obtain ⟨p, q, t1, b1, t2, b2, rfl, T, k⟩ := h
    refine ⟨_, pss_one (ps_ret (pe_cal cL hr rfl pass0 (pa_cons (pe_op op_mulB (pit 0 0) (pit 1 0)) (pa_cons (pe_op op_mulB (pit 0 1) (pit 1 1)) pa_nil)))), ?_⟩
    refine ⟨p, _, _, rfl, T.sp, rfl, q, _, _, rfl, T.sq, rfl, _, _, rfl, rfl, ⟨b6 T.st1, b6 T.st2⟩, ?_⟩
    exact ⟨p, _, _, rfl, T.sp, rfl, q, _, _, rfl, T.sq, rfl, _, _, rfl, rfl, ⟨b6 T.sb1, b6 T.sb2⟩, _, _, rfl, T.nn.2.2, T.bot.1, T.bot.2.mono (by decide), fun z H' s _ e => k z H' s e⟩
theorem scUnder : FnScope ["_law_one", "_law_other"] ["_law_one", "_law_other"] (defScope sUnder) := ⟨rfl, rfl, rfl, by decide +kernel, rfl, by decide +kernel, by decide +kernel⟩
theorem ok_under {f : Addr} {fd : FuncData} (F : Fun K "_law_under" "_law_under" sUnder f fd) : FnOk P w K mg base CX0 1 f fd ["_law_one", "_law_other"] (spLess K) := by
  refine F.ok scUnder (fun vs H Q E h => ?_) (fun cdv A outer s H vs Q E hr h => ?_)
  · obtain ⟨_, _, _, _, _, _, rfl, _⟩ := h
    rfl
  · obtain ⟨p, q, t1, b1, t2, b2, rfl, T, k⟩ := h
    refine ⟨_, pss_one (ps_ret (pe_cmpR op_lt (pe_op op_mulB (pit 0 0) (pit 1 1)) (pe_op op_mulB (pit 1 0) (pit 0 1)) (nomark _))), ?_⟩
    refine ⟨p, _, _, rfl, T.sp, rfl, q, _, _, rfl, T.sq, rfl, _, _, rfl, rfl, ⟨b6 T.st1, b6 T.sb2⟩, q, _, _, rfl, T.sq, rfl, p, _, _, rfl, T.sp, rfl, _, _, rfl, rfl, ⟨b6 T.st2, b6 T.sb1⟩, _, _, rfl, rfl, k⟩
end
end K32

namespace K32
open PySem PySem.Spec PyProof.Rows L2 GM TM
/-- a phial: what it holds, a number that all its bottoms go into, its names -/
abbrev PD : Type := List (Str × Int × Int) × Int × List Str
def Ph (H : Hp) (v : V) (d : PD) : Prop := ∃ (a m n : Addr) (us : List V), v = .ref a ∧ H a = some (.tup [.ref m, .ref n]) ∧ H m = some (.tup us) ∧ PrL H us d.1 ∧ H n = some (.tup (d.2.2.map V.str))
structure OkD (d : PD) : Prop where
  o : Over d.2.1 d.1
  m0 : 0 < d.2.1
  m : Bt 3000 d.2.1
  s : ∀ i, Bt 3000 (sumN d.2.1 (d.1.take i))
def PhL (H : Hp) (vs : List V) (ds : List PD) : Prop := vs.length = ds.length ∧ ∀ (i : Nat) v d, vs[i]? = some v → ds[i]? = some d → Ph H v d ∧ OkD d
theorem Ph.keep {H H' : Hp} {v : V} {d : PD} (h : Ph H v d) (k : Tk H H') : Ph H' v d := by
  obtain ⟨a, m, n, us, e, h1, h2, h3, h4⟩ := h
  exact ⟨a, m, n, us, e, k _ _ h1, k _ _ h2, h3.keep k, k _ _ h4⟩
theorem PhL.keep {H H' : Hp} {vs : List V} {ds : List PD} (h : PhL H vs ds) (k : Tk H H') : PhL H' vs ds := ⟨h.1, fun i v d hv hd => ⟨(h.2 i v d hv hd).1.keep k, (h.2 i v d hv hd).2⟩⟩
theorem PhL.get {H : Hp} {vs : List V} {ds : List PD} (h : PhL H vs ds) {i : Nat} {v : V} (hv : vs[i]? = some v) : ∃ d, ds[i]? = some d ∧ Ph H v d ∧ OkD d := by
  obtain ⟨d, hd⟩ : ∃ d, ds[i]? = some d := ⟨_, List.getElem?_eq_getElem (by rw [← h.1]; exact (List.getElem?_eq_some_iff.mp hv).1)⟩
  exact ⟨d, hd, h.2 i v d hv hd⟩
/-- the rooms' numbers -/
def RmL (H : Hp) (rs : List V) (rbs : List (Int × Int)) : Prop := rs.length = rbs.length ∧ ∀ (i : Nat) v rb, rs[i]? = some v → rbs[i]? = some rb → ∃ q, v = .ref q ∧ H q = some (.tup [.int rb.1, .int rb.2]) ∧ Rm rb.1 rb.2
theorem RmL.keep {H H' : Hp} {rs : List V} {rbs : List (Int × Int)} (h : RmL H rs rbs) (k : Tk H H') : RmL H' rs rbs := ⟨h.1, fun i v d hv hd => by
  obtain ⟨q, e, h1, h2⟩ := h.2 i v d hv hd
  exact ⟨q, e, k _ _ h1, h2⟩⟩
theorem RmL.get {H : Hp} {vs : List V} {ds : List (Int × Int)} (h : RmL H vs ds) {i : Nat} {v : V} (hv : vs[i]? = some v) : ∃ d, ds[i]? = some d ∧ ∃ q, v = .ref q ∧ H q = some (.tup [.int d.1, .int d.2]) ∧ Rm d.1 d.2 := by
  obtain ⟨d, hd⟩ : ∃ d, ds[i]? = some d := ⟨_, List.getElem?_eq_getElem (by rw [← h.1]; exact (List.getElem?_eq_some_iff.mp hv).1)⟩
  exact ⟨d, hd, h.2 i v d hv hd⟩
theorem RmsT.list {H : Hp} : ∀ {rs : List V}, RmsT H rs → ∃ rbs, RmL H rs rbs
  | [], _ => ⟨[], rfl, fun i v rb h => by simp at h⟩
  | u :: r, h => by
    obtain ⟨q, t, b, rfl, sq, rm⟩ := h u (List.mem_cons_self ..)
    obtain ⟨rbs, l, k⟩ := RmsT.list (rs := r) fun x hx => h x (List.mem_cons_of_mem _ hx)
    refine ⟨(t, b) :: rbs, by rw [List.length_cons, List.length_cons, l], fun i v rb hv hb => ?_⟩
    cases i with
    | zero =>
      cases hv
      cases hb
      exact ⟨q, rfl, sq, rm⟩
    | succ i => exact k i v rb (by simpa using hv) (by simpa using hb)
def bad (us : List V) (ps : List (Str × Str)) (rb : Int × Int) (d : PD) : Bool := decide (rb.1 * d.2.1 < sumN d.2.1 d.1 * rb.2) || !decide (pairOf us ps d.2.2 = .non)
def fitV (us : List V) (ps : List (Str × Str)) (rbs : List (Int × Int)) (ds : List PD) : Bool := decide (ds.length = rbs.length) && (rbs.zip ds).all fun z => !bad us ps z.1 z.2
theorem fr_less {M t b N rt rb : Int} (hM : 0 < M) (h : Fr M t b N) : decide (rt * b < t * rb) = decide (rt * M < N * rb) := by
  have b0 : 0 < b := by have := h.am.b1; omega
  refine decide_eq_decide.mpr ?_
  have e1 : rt * b * M = rt * M * b := Int.mul_right_comm ..
  have e2 : t * rb * M = N * rb * b := by rw [Int.mul_right_comm, h.e, Int.mul_right_comm]
  rw [← Int.mul_lt_mul_right hM, e1, e2, Int.mul_lt_mul_right b0]
theorem zip_at {α β : Type} {xs : List α} {ys : List β} {i : Nat} {x : α} {y : β} (hx : xs[i]? = some x) (hy : ys[i]? = some y) : (xs.zip ys)[i]? = some (x, y) := by
  rw [List.getElem?_zip_eq_some]
  exact ⟨hx, hy⟩
theorem fit_no {us : List V} {ps : List (Str × Str)} {rbs : List (Int × Int)} {ds : List PD} {i : Nat} {rb : Int × Int} {d : PD} (h1 : rbs[i]? = some rb) (h2 : ds[i]? = some d) (b : bad us ps rb d = true) : fitV us ps rbs ds = false := by
  unfold fitV
  have : ((rbs.zip ds).all fun z => !bad us ps z.1 z.2) = false := by
    rw [List.all_eq_false]
    exact ⟨(rb, d), List.mem_of_getElem? (zip_at h1 h2), by rw [b]; decide⟩
  rw [this, Bool.and_false]
theorem fit_yes {us : List V} {ps : List (Str × Str)} {rbs : List (Int × Int)} {ds : List PD} (l : ds.length = rbs.length) (h : ∀ (i : Nat) rb d, rbs[i]? = some rb → ds[i]? = some d → bad us ps rb d = false) : fitV us ps rbs ds = true := by
  unfold fitV
  rw [decide_eq_true l, Bool.true_and, List.all_eq_true]
  intro z hz
  obtain ⟨i, hi⟩ := List.mem_iff_getElem?.mp hz
  have := List.getElem?_zip_eq_some.mp hi
  rw [h i z.1 z.2 this.1 this.2]
  rfl
theorem fit_len {us : List V} {ps : List (Str × Str)} {rbs : List (Int × Int)} {ds : List PD} (l : ds.length ≠ rbs.length) : fitV us ps rbs ds = false := by
  unfold fitV
  rw [decide_eq_false l, Bool.false_and]
structure FitIn (K : PySem.W.Frag) (H : Hp) (p r q l : Addr) (rs us vs : List V) (ps : List (Str × Str)) (rbs : List (Int × Int)) (ds : List PD) : Prop where
  bn : Bn H p r q rs us ps
  rl : RmL H rs rbs
  hl : SqL K H l vs
  pl : PhL H vs ds
def spFit (K : PySem.W.Frag) : Sp := fun vs H Q _ => ∃ (p r q l : Addr) (rs us ws : List V) (ps : List (Str × Str)) (rbs : List (Int × Int)) (ds : List PD), vs = [.ref p, .ref l] ∧ FitIn K H p r q l rs us ws ps rbs ds ∧ ∀ H', Same H H' → Q (.bl (fitV us ps rbs ds)) H'
section
variable {P : Program} {w : World} {K : PySem.W.Frag} {mg : Str → Option Value} {base : Heap}
theorem scFit : FnScope ["bench", "phials", "room", "phial"] ["bench", "phials"] (defScope sFit) := ⟨rfl, rfl, rfl, by decide +kernel, rfl, by decide +kernel, by decide +kernel⟩
theorem ok_fit {f : Addr} {fd : FuncData} (F : Fun K "fit" "fit" sFit f fd) (T : Txt mg) (cL : Cal P w K mg base CX0 4 "less" ["one", "other"] (spLess K)) (cW : Cal P w K mg base CX0 4 "whole" ["one"] (spWholeM K)) (cP : Cal P w K mg base CX0 4 "pair_in" ["bench", "names"] (spPairIn K)) : FnOk P w K mg base CX0 5 f fd ["bench", "phials"] (spFit K) := by
  refine F.ok scFit (fun vs H Q E h => ?_) (fun cdv A outer s H vs Q E hr h => ?_)
  · obtain ⟨_, _, _, _, _, _, _, _, _, _, rfl, _⟩ := h
    rfl
  · obtain ⟨p, r, q, l, rs, us, ws, ps, rbs, ds, rfl, I, k⟩ := h
    refine ⟨_, (pss_cons (ps_if (pt_cmpR op_ne (pe_callB call_len_seq rfl T.len PySem.boot_len (pa_cons (pv 1) pa_nil)) (pe_callB call_len_seq rfl T.len PySem.boot_len (pa_cons (pit 0 0) pa_nil)) (nomark _)) (pss_one (ps_ret pe_bl)) pss_nil)
      (pss_cons (ps_for PassesOwn.never rfl (pi_zip rfl T.zip' (pa_cons (pit 0 0) (pa_cons (pv 1) pa_nil))) (pg_tup rfl (pgs_cons (pg_name (i := 2) scFit.nd rfl (Or.inl rfl)) (pgs_cons (pg_name (i := 3) scFit.nd rfl (Or.inl rfl)) pgs_nil)))
        (pss_one (ps_if (PW.pt (pw_or (pt_val (pe_cal cL hr rfl pass0 (pa_cons (pv 2) (pa_cons (pe_cal cW hr rfl pass0 (pa_cons (pit 3 0) pa_nil)) pa_nil)))) (pw_or1 (pt_cmpR op_notN (pe_cal cP hr rfl pass0 (pa_cons (pv 0) (pa_cons (pit 3 1) pa_nil))) pe_non (nomark _))))) (pss_one (ps_ret pe_bl)) pss_nil)))
      (pss_one (ps_ret pe_bl)))), ?_⟩
    have hp : SqT K H p [.ref r, .ref q] := SqT.of I.bn.hp
    have hR : SqT K H r rs := SqT.of I.bn.hr
    refine ⟨_, rfl, l, ws, rfl, .inl I.hl, p, _, _, rfl, hp, rfl, r, rs, rfl, .inr hR, rfl, _, rfl, ite2 (fun hc => ?_) (fun hc => ?_)⟩
    · have n : ds.length ≠ rbs.length := fun e => by
        have : (!decide (V.int (ws.length : Int) = V.int (rs.length : Int))) = true := hc
        rw [decide_eq_true (by rw [I.pl.1, I.rl.1, e])] at this
        cases this
      rw [fit_len n] at k
      exact k _ (Same.refl _)
    have le : ws.length = rs.length := by
      by_cases z : (ws.length : Int) = rs.length
      · omega
      · exfalso
        apply hc
        show (!decide (V.int (ws.length : Int) = V.int (rs.length : Int))) = true
        rw [decide_eq_false fun e => z (V.int.inj e)]
        rfl
    refine ⟨p, _, _, rfl, hp, rfl, _, rfl, r, l, rfl, ⟨_, hR⟩, ⟨_, I.hl⟩, ?_⟩
    refine for_zip (xs := rs) (ys := ws) (fun i σ H' => ∃ (v2 v3 : Option V), σ = [some (.ref p), some (.ref l), v2, v3] ∧ Same H H' ∧ ∀ (j : Nat) rb d, j < i → rbs[j]? = some rb → ds[j]? = some d → bad us ps rb d = false)
      ⟨none, none, rfl, Same.refl _, fun j _ _ h => absurd h (Nat.not_lt_zero _)⟩ ?_ le.symm ?_ ?_
    · rintro i σ H' _ ⟨_, _, rfl, sm, _⟩
      exact ⟨sm.tup hR, sm.seq I.hl⟩
    · rintro i x y Tz σ H2 hx hy hT ⟨v2, v3, rfl, sm, ok⟩
      have s3 := sm.trans (Same.upd (o := .tup [x, y]) hT)
      obtain ⟨rb, hrb, z, rfl, hz, rm⟩ := (I.rl.keep s3.tk).get hx
      obtain ⟨d, hd, ⟨a, m, n, vs', rfl, h1, h2, h3, h4⟩, okd⟩ := (I.pl.keep s3.tk).get hy
      have step : ∀ (b : bad us ps rb d = false), ∀ (j : Nat) rb' d', j < i + 1 → rbs[j]? = some rb' → ds[j]? = some d' → bad us ps rb' d' = false := fun b j rb' d' hj e1 e2 => by
        by_cases e : j = i
        · subst e
          rw [hrb] at e1
          rw [hd] at e2
          cases e1
          cases e2
          exact b
        · exact ok j rb' d' (by omega) e1 e2
      refine ⟨Tz, _, rfl, SqT.of upd_same, rfl, _, _, rfl, _, _, rfl, rfl, ?_⟩
      refine ⟨_, rfl, a, _, _, rfl, SqT.of h1, rfl, m, vs', d.1, d.2.1, rfl, SqT.of h2, h3, okd.o, okd.m0, okd.m, okd.s, fun g t b H4 s4 hg fr => ?_⟩
      have sm2 := frSmall okd.m0 fr
      have fb := fr.am
      have bN := okd.s d.1.length
      rw [List.take_length] at bN
      refine ⟨z, g, rb.1, rb.2, t, b, rfl, ⟨SqT.of (s4 _ _ hz), hg, ⟨by have := rm.t1; omega, rm.b1, rm.g⟩, fb, rm.st.mono (by decide), rm.sb.mono (by decide), (bN.le fb.t0 sm2.1).mono (by decide), (okd.m.le (by have := fb.b1; omega) sm2.2).mono (by decide)⟩, _, rfl, ?_⟩
      rw [fr_less okd.m0 fr]
      refine ite2 (fun h5 => ?_) (fun h5 => ?_)
      · have bd : bad us ps rb d = true := by
          unfold bad
          rw [h5, Bool.true_or]
        rw [fit_no hrb hd bd] at k
        exact k _ (s3.trans s4)
      · have h5' := Bool.eq_false_iff.mpr h5
        refine ⟨_, rfl, a, _, _, rfl, SqT.of (s4 _ _ h1), rfl, p, r, q, rs, us, ps, n, d.2.2, rfl, I.bn.keep (s3.trans s4), SqT.of (s4 _ _ h4), rfl, _, rfl, ite2 (fun h6 => ?_) (fun h6 => ?_)⟩
        · have bd : bad us ps rb d = true := by
            unfold bad
            rw [h6, Bool.or_true]
          rw [fit_no hrb hd bd] at k
          exact k _ (s3.trans s4)
        · have bd : bad us ps rb d = false := by
            unfold bad
            rw [h5', Bool.false_or]
            exact Bool.eq_false_iff.mpr h6
          exact ⟨_, _, rfl, s3.trans s4, step bd⟩
    · rintro σ H2 ⟨v2, v3, rfl, sm, ok⟩
      have : fitV us ps rbs ds = true := fit_yes (by rw [← I.pl.1, ← I.rl.1, le]) fun i rb d h1 h2 => ok i rb d (by rw [I.rl.1]; exact (List.getElem?_eq_some_iff.mp h1).1) h1 h2
      rw [this] at k
      exact k _ sm
end
end K32

namespace K32
open PySem PySem.Spec PyProof.Rows L2 GM TM
section
variable {P : Program} {w : World} {K : PySem.W.Frag} {mg : Str → Option Value} {base : Heap}
theorem scIsFit : FnScope ["_law_bench_here", "_law_phials", "_law_k", "_law_lies", "_law_ware", "_law_much_here"] ["_law_bench_here", "_law_phials"] (defScope sIsFit) := ⟨rfl, rfl, rfl, by decide +kernel, rfl, by decide +kernel, by decide +kernel⟩
theorem ok_isfit {f : Addr} {fd : FuncData} (F : Fun K "_law_is_fit" "_law_is_fit" sIsFit f fd) (T : Txt mg) (cA : Cal P w K mg base CX0 2 "_law_add" ["_law_one", "_law_other"] (spAdd K)) (cU : Cal P w K mg base CX0 2 "_law_under" ["_law_one", "_law_other"] (spLess K)) (cP : Cal P w K mg base CX0 2 "_law_pair" ["_law_bench_here", "_law_names_here"] (spPairIn K)) : FnOk P w K mg base CX0 3 f fd ["_law_bench_here", "_law_phials"] (spFit K) := by
  refine F.ok scIsFit (fun vs H Q E h => ?_) (fun cdv A outer s H vs Q E hr h => ?_)
  · obtain ⟨_, _, _, _, _, _, _, _, _, _, rfl, _⟩ := h
    rfl
  · obtain ⟨p, r, q, l, rs, us, ws, ps, rbs, ds, rfl, I, k⟩ := h
    refine ⟨_, (pss_cons (ps_if (pt_cmpR op_ne (pe_callB call_len_seq rfl T.len PySem.boot_len (pa_cons (pv 1) pa_nil)) (pe_callB call_len_seq rfl T.len PySem.boot_len (pa_cons (pit 0 0) pa_nil)) (nomark _)) (pss_one (ps_ret pe_bl)) pss_nil)
      (pss_cons (ps_for PassesOwn.never rfl (pi_range1 rfl T.range (pa_cons (pe_callB call_len_seq rfl T.len PySem.boot_len (pa_cons (pv 1) pa_nil)) pa_nil)) (pg_name (i := 2) scIsFit.nd rfl (Or.inl rfl))
        (pss_cons (ps_set (i := 3) scIsFit.nd rfl (Or.inl rfl) (pe_tup (pa_cons pe_int (pa_cons pe_int pa_nil))))
        (pss_cons (ps_for PassesOwn.never rfl (pi_tup (pe_ix ix_tup (pe_ix ix_list (pv 1) (pv 2) (fun _ _ => rfl)) pe_int (fun _ _ => rfl))) (pg_tup rfl (pgs_cons (pg_name (i := 4) scIsFit.nd rfl (Or.inl rfl)) (pgs_cons (pg_name (i := 5) scIsFit.nd rfl (Or.inl rfl)) pgs_nil)))
          (pss_one (ps_set (i := 3) scIsFit.nd rfl (Or.inl rfl) (pe_cal cA hr rfl pass0 (pa_cons (pv 3) (pa_cons (pv 5) pa_nil))))))
        (pss_one (ps_if (PW.pt (pw_or (pt_val (pe_cal cU hr rfl pass0 (pa_cons (pe_ix ix_tup (pit 0 0) (pv 2) (fun _ _ => rfl)) (pa_cons (pv 3) pa_nil)))) (pw_or1 (pt_cmpR op_notN (pe_cal cP hr rfl pass0 (pa_cons (pv 0) (pa_cons (pe_ix ix_tup (pe_ix ix_list (pv 1) (pv 2) (fun _ _ => rfl)) pe_int (fun _ _ => rfl)) pa_nil))) pe_non (nomark _))))) (pss_one (ps_ret pe_bl)) pss_nil)))))
      (pss_one (ps_ret pe_bl)))), ?_⟩
    have hp : SqT K H p [.ref r, .ref q] := SqT.of I.bn.hp
    have hR : SqT K H r rs := SqT.of I.bn.hr
    refine ⟨_, rfl, l, ws, rfl, .inl I.hl, p, _, _, rfl, hp, rfl, r, rs, rfl, .inr hR, rfl, _, rfl, ite2 (fun hc => ?_) (fun hc => ?_)⟩
    · have n : ds.length ≠ rbs.length := fun e => by
        have : (!decide (V.int (ws.length : Int) = V.int (rs.length : Int))) = true := hc
        rw [decide_eq_true (by rw [I.pl.1, I.rl.1, e])] at this
        cases this
      rw [fit_len n] at k
      exact k _ (Same.refl _)
    have le : ws.length = rs.length := by
      by_cases z : (ws.length : Int) = rs.length
      · omega
      · exfalso
        apply hc
        show (!decide (V.int (ws.length : Int) = V.int (rs.length : Int))) = true
        rw [decide_eq_false fun e => z (V.int.inj e)]
        rfl
    have l16 := I.bn.l16
    refine ⟨_, rfl, l, ws, rfl, .inl I.hl, _, rfl, by omega, by omega, ?_⟩
    refine for_range (fun i σ H' => ∃ (v2 v3 v4 v5 : Option V), σ = [some (.ref p), some (.ref l), v2, v3, v4, v5] ∧ Same H H' ∧ ∀ (j : Nat) rb d, j < i → rbs[j]? = some rb → ds[j]? = some d → bad us ps rb d = false)
      ⟨none, none, none, none, rfl, Same.refl _, fun j _ _ h => absurd h (Nat.not_lt_zero _)⟩ ?_ ?_
    · rintro i σ H2 hi ⟨v2, v3, v4, v5, rfl, sm, ok⟩
      have hi' : i < ws.length := by omega
      obtain ⟨x, hx⟩ : ∃ x, rs[i]? = some x := ⟨_, List.getElem?_eq_getElem (by omega)⟩
      obtain ⟨y, hy⟩ : ∃ y, ws[i]? = some y := ⟨_, List.getElem?_eq_getElem hi'⟩
      have ax : atI rs ((0 : Int) + i) = some x := by rw [show ((0 : Int) + i) = ((i : Nat) : Int) by omega]; exact atI_nat hx
      have ay : atI ws ((0 : Int) + i) = some y := by rw [show ((0 : Int) + i) = ((i : Nat) : Int) by omega]; exact atI_nat hy
      refine ⟨(by show 2 ≤ sizeLine; decide), fun o no => ?_⟩
      have s3 := sm.trans (Same.upd (o := .tup [.int 0, .int 1]) no)
      obtain ⟨rb, hrb, z, rfl, hz, rm⟩ := (I.rl.keep s3.tk).get hx
      obtain ⟨d, hd, ⟨a, m, n, vs', rfl, h1, h2, h3, h4⟩, okd⟩ := (I.pl.keep s3.tk).get hy
      have ho : (upd H2 o (.tup [.int 0, .int 1])) o = some (.tup [.int 0, .int 1]) := upd_same
      generalize upd H2 o (.tup [.int 0, .int 1]) = H3 at *
      have step : ∀ (b : bad us ps rb d = false), ∀ (j : Nat) rb' d', j < i + 1 → rbs[j]? = some rb' → ds[j]? = some d' → bad us ps rb' d' = false := fun b j rb' d' hj e1 e2 => by
        by_cases e : j = i
        · subst e
          rw [hrb] at e1
          rw [hd] at e2
          cases e1
          cases e2
          exact b
        · exact ok j rb' d' (by omega) e1 e2
      refine ⟨_, rfl, _, rfl, l, _, _, _, rfl, rfl, s3.seq I.hl, ay, a, _, _, _, rfl, rfl, SqT.of h1, atI_nat (j := 0) rfl, m, rfl, ⟨_, SqT.of h2⟩, ?_⟩
      refine for_tup (xs := vs') (fun j σ H' => ∃ (g : Addr) (t b : Int) (v4 v5 : Option V), σ = [some (.ref p), some (.ref l), some (.int (0 + i)), some (.ref g), v4, v5] ∧ H' g = some (.tup [.int t, .int b]) ∧ Fr d.2.1 t b (sumN d.2.1 (d.1.take j)) ∧ Same H3 H')
        ⟨o, 0, 1, _, _, rfl, ho, Fr.zero, Same.refl _⟩ ?_ ?_ ?_
      · rintro j σ H' _ ⟨_, _, _, _, _, rfl, _, _, s4⟩
        exact SqT.of (s4 _ _ h2)
      · rintro j v σ H4 hv ⟨g, t, b, v4, v5, rfl, hg, fr, s4⟩
        obtain ⟨e, he, p', q', rfl, e1, e2⟩ := h3.get hv
        obtain ⟨am, dv⟩ := okd.o e (List.mem_of_getElem? he)
        have frx : Fr d.2.1 e.2.1 e.2.2 (nOf d.2.1 e) := Fr.of am dv
        have sm4 := frSmall okd.m0 fr
        have smx := frSmall okd.m0 frx
        have n1 := fr.nonneg okd.m0
        have n2 := frx.nonneg okd.m0
        have fb := fr.am
        have bN := okd.s j
        have bN1 := okd.s (j + 1)
        rw [sumN_snoc he] at bN1
        have bx : Bt 3000 (nOf d.2.1 e) := bN1.le n2 (by omega)
        refine ⟨p', _, rfl, SqT.of (s4 _ _ e1), rfl, _, _, rfl, _, _, rfl, rfl, ?_⟩
        refine ⟨_, rfl, _, rfl, g, q', t, b, e.2.1, e.2.2, rfl, ⟨SqT.of hg, SqT.of (s4 _ _ e2), fb, am, (bN.le fb.t0 sm4.1).mono (by decide), (okd.m.le (by have := fb.b1; omega) sm4.2).mono (by decide), (bx.le am.t0 smx.1).mono (by decide), (okd.m.le (by have := am.b1; omega) smx.2).mono (by decide)⟩, fun r' H5 s5 h5 => ?_⟩
        refine ⟨r', _, _, _, _, rfl, h5, ?_, s4.trans s5⟩
        rw [sumN_snoc he]
        exact fr.plus frx
      · rintro σ H4 ⟨g, t, b, v4, v5, rfl, hg, fr, s4⟩
        rw [h3.length, List.take_length] at fr
        have sm2 := frSmall okd.m0 fr
        have fb := fr.am
        have bN := okd.s d.1.length
        rw [List.take_length] at bN
        have s34 := s3.trans s4
        refine ⟨p, _, _, rfl, s34.tup hp, rfl, _, rfl, r, _, _, _, rfl, rfl, s34.tup hR, ax, _, rfl, z, g, rb.1, rb.2, t, b, rfl, ⟨SqT.of (s4 _ _ hz), SqT.of hg, ⟨by have := rm.t1; omega, rm.b1, rm.g⟩, fb, rm.st.mono (by decide), rm.sb.mono (by decide), (bN.le fb.t0 sm2.1).mono (by decide), (okd.m.le (by have := fb.b1; omega) sm2.2).mono (by decide)⟩, _, rfl, ?_⟩
        rw [fr_less okd.m0 fr]
        refine ite2 (fun h5 => ?_) (fun h5 => ?_)
        · have bd : bad us ps rb d = true := by
            unfold bad
            rw [h5, Bool.true_or]
          rw [fit_no hrb hd bd] at k
          exact k _ s34
        · have h5' := Bool.eq_false_iff.mpr h5
          refine ⟨_, rfl, _, rfl, _, rfl, l, _, _, _, rfl, rfl, s34.seq I.hl, ay, a, _, _, _, rfl, rfl, SqT.of (s4 _ _ h1), atI_nat (j := 1) rfl, p, r, q, rs, us, ps, n, d.2.2, rfl, I.bn.keep s34, SqT.of (s4 _ _ h4), rfl, _, rfl, ite2 (fun h6 => ?_) (fun h6 => ?_)⟩
          · have bd : bad us ps rb d = true := by
              unfold bad
              rw [h6, Bool.or_true]
            rw [fit_no hrb hd bd] at k
            exact k _ s34
          · have bd : bad us ps rb d = false := by
              unfold bad
              rw [h5', Bool.false_or]
              exact Bool.eq_false_iff.mpr h6
            exact ⟨_, _, _, _, rfl, s34, step bd⟩
    · rintro σ H2 ⟨v2, v3, v4, v5, rfl, sm, ok⟩
      have : fitV us ps rbs ds = true := fit_yes (by rw [← I.pl.1, ← I.rl.1, le]) fun i rb d h1 h2 => ok i rb d (by have := I.rl.1; have := (List.getElem?_eq_some_iff.mp h1).1; omega) h1 h2
      rw [this] at k
      exact k _ sm
end
end K32

namespace K32
open PySem PySem.Spec PyProof.Rows L2 GM TM
/-- all bottoms, multiplied -/
def bigM : List (Str × Int × Int) → Int
  | [] => 1
  | x :: r => x.2.2 * bigM r
theorem bigM_pos : ∀ {xs : List (Str × Int × Int)}, (∀ x ∈ xs, 1 ≤ x.2.2) → 0 < bigM xs
  | [], _ => by decide
  | x :: r, h => Int.mul_pos (by have := h x (List.mem_cons_self ..); omega) (bigM_pos fun y hy => h y (List.mem_cons_of_mem _ hy))
theorem bigM_dvd : ∀ {xs : List (Str × Int × Int)} {x : Str × Int × Int}, x ∈ xs → x.2.2 ∣ bigM xs
  | y :: r, x, h => by
    rcases List.mem_cons.mp h with rfl | h
    · exact ⟨bigM r, rfl⟩
    · exact Int.dvd_trans (bigM_dvd h) ⟨y.2.2, Int.mul_comm _ _⟩
theorem bigM_bt {n : Nat} : ∀ {xs : List (Str × Int × Int)}, (∀ x ∈ xs, Bt n x.2.2) → Bt (n * xs.length + 1) (bigM xs)
  | [], _ => bt_lt 1 (c := 2) (by decide) (by decide)
  | x :: r, h => by
    have := (h x (List.mem_cons_self ..)).mul (bigM_bt (n := n) fun y hy => h y (List.mem_cons_of_mem _ hy))
    refine this.mono ?_
    rw [List.length_cons, Nat.mul_succ]
    omega
theorem sum_bt {n : Nat} {g : Str × Int × Int → Int} : ∀ {xs : List (Str × Int × Int)}, (∀ x ∈ xs, Bt n (g x)) → Bt (n + xs.length + 1) ((xs.map g).sum)
  | [], _ => (show Bt 1 (0 : Int) from bt_lt 1 (c := 1) (by decide) (by decide)).mono (by omega)
  | x :: r, h => by
    have h1 := (h x (List.mem_cons_self ..)).mono (show n ≤ n + r.length + 1 by omega)
    have h2 := sum_bt (n := n) (g := g) fun y hy => h y (List.mem_cons_of_mem _ hy)
    rw [List.map_cons, List.sum_cons]
    exact (h1.add h2).mono (by rw [List.length_cons]; omega)
theorem okd_of {n : Nat} {xs : List (Str × Int × Int)} {ys : List Str} (hn : n ≤ 400) (l : xs.length ≤ 6) (h : ∀ x ∈ xs, Amt x.2.1 x.2.2 ∧ Bt n x.2.1 ∧ Bt n x.2.2) : OkD (xs, bigM xs, ys) := by
  have m0 := bigM_pos (xs := xs) fun x hx => (h x hx).1.b1
  have mb := bigM_bt (n := n) (xs := xs) fun x hx => (h x hx).2.2
  have ml : n * xs.length ≤ 2400 := Nat.le_trans (Nat.mul_le_mul hn l) (by decide)
  refine ⟨fun x hx => ⟨(h x hx).1, bigM_dvd hx⟩, m0, mb.mono (by omega), fun i => ?_⟩
  have k : ∀ x ∈ xs.take i, Bt 2801 (nOf (bigM xs) x) := fun x hx => by
    have hx' := List.mem_of_mem_take hx
    have e : Bt (n * xs.length + 1) (bigM xs / x.2.2) := mb.le (Int.ediv_nonneg (by omega) (by have := (h x hx').1.b1; omega)) (Int.ediv_le_self _ (by omega))
    exact ((h x hx').2.1.mul e).mono (by omega)
  have := sum_bt k
  refine this.mono ?_
  rw [List.length_take]
  omega
theorem if_key {A : Prop} {u : TS} {D : Ends} {σ : L2.St} {H : Hp} {b : Bool} (S : L2.St → Hp → Prop) (h1 : (∀ σ' H', S σ' H' → u D σ' H') → b = true → A) (h2 : ¬ b = true → S σ H) (h : ∀ σ' H', S σ' H' → u D σ' H') : if b = true then A else tNext { D with nx := u D } σ H := by
  by_cases e : b = true
  · rw [if_pos e]
    exact h1 h e
  · rw [if_neg e]
    exact h σ H (h2 e)
def spFreePh (K : PySem.W.Frag) : Sp := fun vs H Q _ => ∃ (a l : Addr) (ws : List Str), vs = [.ref a, .ref l] ∧ SqL K H a (ws.map V.str) ∧ Six0 ws ∧ Lf H l ∧ ∀ v d H', SmB l H H' → Ph H' v d → OkD d → Q v H'
section
variable {P : Program} {w : World} {K : PySem.W.Frag} {mg : Str → Option Value} {base : Heap}
theorem scFreePh : FnScope ["_law_wares_here", "_law_left", "_law_held", "_law_names_here", "_law_ware", "_law_way", "_law_top"] ["_law_wares_here", "_law_left"] (defScope sFreePh) := ⟨rfl, rfl, rfl, by decide +kernel, rfl, by decide +kernel, by decide +kernel⟩
theorem ok_freeph {f : Addr} {fd : FuncData} (F : Fun K "_law_free_phial" "_law_free_phial" sFreePh f fd) (T : Txt mg) (cD : Cal P w K mg base CX0 1 "_law_digit" ["_law_left", "_law_many"] spDigit) (cL : Cal P w K mg base CX0 1 "_law_lowest" ["_law_top", "_law_bottom"] spLowest) : FnOk P w K mg base CX0 2 f fd ["_law_wares_here", "_law_left"] (spFreePh K) := by
  refine F.ok scFreePh (fun vs H Q E h => ?_) (fun cdv A outer s H vs Q E hr h => ?_)
  · obtain ⟨_, _, _, rfl, _⟩ := h
    rfl
  · obtain ⟨a, l, ws, rfl, ha, six0, lf, k⟩ := h
    refine ⟨_, (pss_cons (ps_set (i := 2) scFreePh.nd rfl (Or.inl rfl) (pe_lst pa_nil))
      (pss_cons (ps_set (i := 3) scFreePh.nd rfl (Or.inl rfl) (pe_lst pa_nil))
      (pss_cons (ps_for PassesOwn.never rfl (pi_list (pe_callB call_sortS rfl T.sorted' boot_sorted (pa_cons (pv 0) pa_nil))) (pg_name (i := 4) scFreePh.nd rfl (Or.inl rfl))
        (pss_cons (ps_set (i := 5) scFreePh.nd rfl (Or.inl rfl) (pe_cal cD hr rfl pass0 (pa_cons (pv 1) (pa_cons pe_int pa_nil))))
        (pss_cons (ps_if (pt_cmpR op_gt (pv 5) pe_int (nomark _))
          (pss_one (ps_expr (pe_bm PySem.F.plainAttrs_list PySem.F.slot_list_append PySem.F.type_list_append mt_append (pv 3) (pa_cons (pv 4) pa_nil))))
          pss_nil)
        (pss_one (ps_if (pt_cmpR op_gt (pv 5) pe_int (nomark _))
          (pss_cons (ps_set (i := 6) scFreePh.nd rfl (Or.inl rfl) (pe_op op_add pe_int (pe_cal cD hr rfl pass0 (pa_cons (pv 1) (pa_cons (pe_op op_powB pe_int pe_int) pa_nil)))))
          (pss_one (ps_expr (pe_bm PySem.F.plainAttrs_list PySem.F.slot_list_append PySem.F.type_list_append mt_append (pv 2) (pa_cons (pe_tup (pa_cons (pv 4) (pa_cons (pe_cal cL hr rfl pass0 (pa_cons (pv 6) (pa_cons (pe_op op_add pe_int (pe_cal cD hr rfl pass0 (pa_cons (pv 1) (pa_cons (pe_op op_powB pe_int pe_int) pa_nil)))) pa_nil))) pa_nil))) pa_nil)))))
          pss_nil)))))
      (pss_one (ps_ret (pe_tup (pa_cons (pe_callTy call_tuple_of rfl T.tup' bt_tuple (pa_cons (pv 2) pa_nil)) (pa_cons (pe_callTy call_tuple_of rfl T.tup' bt_tuple (pa_cons (pv 3) pa_nil)) pa_nil)))))))), ?_⟩
    refine ⟨(by show 0 ≤ sizeLine; decide), fun d hd => ⟨(by show 0 ≤ sizeLine; decide), fun g hg => ?_⟩⟩
    have t1 := Same.upd (o := .lst []) hd
    have t2 := Same.upd (o := .lst []) hg
    have gd : g ≠ d := fun e => by rw [e, upd_same] at hg; cases hg
    have dl : d ≠ l := lf.there hd
    have gl : g ≠ l := (lf.keep t1).there hg
    have hg0 : H g = none := same_none t1 hg
    refine ⟨_, rfl, a, ws, rfl, (t1.trans t2).seq ha, by have := six0.l; omega, fun z ss pm st hz => ?_⟩
    have six := Six.of six0 pm st
    have t3 := Same.upd (o := .lst (ss.map V.str)) hz
    have zl : z ≠ l := (lf.keep (t1.trans t2)).there hz
    have zd : z ≠ d := fun e => by rw [e, t2 _ _ upd_same] at hz; cases hz
    have zg : z ≠ g := fun e => by rw [e, upd_same] at hz; cases hz
    have e18' : (10 : Int) ^ Int.toNat 18 = 1000000000000000000 := e18
    refine ⟨z, rfl, ⟨_, SqL.of upd_same⟩, ?_⟩
    refine for_list (xs := ss.map V.str) (fun i σ H' => ∃ (us : List V) (xs : List (Str × Int × Int)) (ys : List Str) (v4 v5 v6 : Option V), σ = [some (.ref a), some (.ref l), some (.ref d), some (.ref g), v4, v5, v6] ∧ SmB l H H' ∧ Lf H' l ∧ H' z = some (.lst (ss.map V.str)) ∧ H' d = some (.lst us) ∧ PrL H' us xs ∧ H' g = some (.lst (ys.map V.str)) ∧ xs.length ≤ i ∧ ys.length ≤ i ∧ ∀ x ∈ xs, Amt x.2.1 x.2.2 ∧ Bt 100 x.2.1 ∧ Bt 100 x.2.2)
      ⟨[], [], [], none, none, none, rfl, .of ((t1.trans t2).trans t3), lf.keep ((t1.trans t2).trans t3), upd_same, t3 _ _ (t2 _ _ upd_same), .nil, t3 _ _ upd_same, Nat.le_refl _, Nat.le_refl _, fun x h => nomatch h⟩ ?_ ?_ ?_
    · rintro i σ H' _ ⟨_, _, _, _, _, _, rfl, _, _, hz', _⟩
      exact SqL.of hz'
    · rintro i v σ H2 hv ⟨us, xs, ys, v4, v5, v6, rfl, s2, lf2, hz2, hd2, pr, hg2, xl, yl, ok⟩
      obtain ⟨x, hx, rfl⟩ : ∃ x, ss[i]? = some x ∧ V.str x = v := by
        rw [List.getElem?_map] at hv
        exact Option.map_eq_some_iff.mp hv
      have i6 : i < 6 := by rw [← six.l]; exact (List.getElem?_eq_some_iff.mp hx).1
      refine ⟨_, rfl, l, 3, rfl, lf2, by decide, b9, fun m H3 m0 ml sb3 lf3 => ?_⟩
      have s3 := s2.trans sb3
      have hz3 := sb3 _ _ zl hz2
      have hd3 := sb3 _ _ dl hd2
      have hg3 := sb3 _ _ gl hg2
      have pr3 := pr.keep (sb3.tk lf2)
      refine ⟨_, rfl, _, _, rfl, rfl, _, rfl, ?_⟩
      refine if_key (fun σ' H' => ∃ ys' : List Str, σ' = [some (.ref a), some (.ref l), some (.ref d), some (.ref g), some (.str x), some (.int m), v6] ∧ SmB l H H' ∧ Lf H' l ∧ H' z = some (.lst (ss.map V.str)) ∧ H' d = some (.lst us) ∧ PrL H' us xs ∧ H' g = some (.lst (ys'.map V.str)) ∧ ys'.length ≤ i + 1) (fun key _ => ?_) (fun _ => ⟨ys, rfl, s3, lf3, hz3, hd3, pr3, hg3, by omega⟩) ?_
      · refine ⟨_, rfl, .inl ⟨rfl, _, SqL.of hg3⟩, _, rfl, g, _, _, rfl, rfl, hg3, small1000 (by rw [List.length_map]; omega), ?_⟩
        exact key _ _ ⟨ys ++ [x], rfl, s3.own hg0, lf3.own gl, by rw [upd_ne zg]; exact hz3, by rw [upd_ne (Ne.symm gd)]; exact hd3, pr3.keep (Tk.lst hg3), by rw [List.map_append]; exact upd_same, by rw [List.length_append, List.length_singleton]; omega⟩
      · rintro _ H4 ⟨ys', rfl, s4, lf4, hz4, hd4, pr4, hg4, yl4⟩
        refine ⟨_, rfl, _, _, rfl, rfl, _, rfl, ite2 (fun _ => ?_) (fun _ => ?_)⟩
        · refine ⟨_, rfl, _, _, rfl, rfl, ⟨by decide, by decide, bk⟩, l, _, rfl, lf4, ?_, ?_, fun t H5 t0 tl sb5 lf5 => ⟨_, _, rfl, rfl, ?_⟩⟩
          · rw [e18']; decide
          · rw [e18']; exact b9
          have hd5 := sb5 _ _ dl hd4
          refine ⟨_, rfl, .inl ⟨rfl, _, SqL.of hd5⟩, _, rfl, _, rfl, _, rfl, _, _, rfl, rfl, ⟨by decide, by decide, bk⟩, l, _, rfl, lf5, ?_, ?_, fun b H6 b0 bl' sb6 lf6 => ⟨_, _, rfl, rfl, ?_⟩⟩
          · rw [e18']; decide
          · rw [e18']; exact b9
          rw [e18'] at bl' tl
          refine ⟨1 + t, 1 + b, rfl, by omega, by omega, b9 (by omega) (by omega), fun p H7 s7 hp7 hp7' => ⟨(by show 2 ≤ sizeLine; decide), fun q hq => ?_⟩⟩
          have rm := low_rm (t := 1 + t) (b := 1 + b) (by omega) (by omega) (bt_lt 100 (c := 2000000000000000000) (by omega) (by omega)) (bt_lt 100 (c := 2000000000000000000) (by omega) (by omega))
          have t8 := Same.upd (o := .tup [.str x, .ref p]) hq
          have hd8 := t8 _ _ (s7 _ _ (sb6 _ _ dl hd5))
          have qd : q ≠ d := fun e => by rw [e, s7 _ _ (sb6 _ _ dl hd5)] at hq; cases hq
          have pd : p ≠ d := fun e => by rw [e, s7 _ _ (sb6 _ _ dl hd5)] at hp7'; cases hp7'
          have pr8 := (((pr4.keep (sb5.tk lf4)).keep (sb6.tk lf5)).keep s7.tk).keep t8.tk
          refine ⟨d, us, _, rfl, rfl, hd8, small1000 (by rw [pr4.length]; omega), ?_⟩
          refine ⟨us ++ [.ref q], xs ++ [(x, (1 + t) / G (1 + t) (1 + b), (1 + b) / G (1 + t) (1 + b))], ys', _, _, _, rfl, ((((s4.trans sb5).trans sb6).trans (.of s7)).trans (.of t8)).own hd, ((lf6.keep s7).keep t8).own dl, ?_, upd_same, (pr8.keep (Tk.lst hd8)).snoc ⟨q, p, rfl, ?_, ?_⟩, ?_, by rw [List.length_append, List.length_singleton]; omega, yl4, fun y hy => ?_⟩
          · rw [upd_ne zd]
            exact t8 _ _ (s7 _ _ (sb6 _ _ zl (sb5 _ _ zl hz4)))
          · rw [upd_ne qd]
            exact upd_same
          · rw [upd_ne pd]
            exact t8 _ _ hp7'
          · rw [upd_ne gd]
            exact t8 _ _ (s7 _ _ (sb6 _ _ gl (sb5 _ _ gl hg4)))
          · rcases List.mem_append.mp hy with h | h
            · exact ok y h
            · rw [List.mem_singleton.mp h]
              exact ⟨⟨Int.le_trans (by decide) rm.t1, rm.b1, rm.g⟩, rm.st, rm.sb⟩
        · exact ⟨us, xs, ys', _, _, _, rfl, s4, lf4, hz4, hd4, pr4, hg4, by omega, yl4, ok⟩
    · rintro σ H2 ⟨us, xs, ys, v4, v5, v6, rfl, s2, lf2, hz2, hd2, pr, hg2, xl, yl, ok⟩
      have l6 : (ss.map V.str).length = 6 := by rw [List.length_map, six.l]
      refine ⟨_, rfl, d, us, rfl, .inl ⟨SqL.of hd2, fun r hr' => ?_⟩⟩
      have u1 := Same.upd (o := .tup us) hr'
      refine ⟨_, rfl, g, _, rfl, .inl ⟨SqL.of (u1 _ _ hg2), fun q hq' => ⟨(by show 2 ≤ sizeLine; decide), fun p hp => ?_⟩⟩⟩
      have u2 := Same.upd (o := .tup (ys.map V.str)) hq'
      have u3 := Same.upd (o := .tup [.ref r, .ref q]) hp
      exact k (.ref p) (xs, bigM xs, ys) _ (((s2.trans (.of u1)).trans (.of u2)).trans (.of u3)) ⟨p, r, q, us, rfl, upd_same, u3 _ _ (u2 _ _ upd_same), ((pr.keep u1.tk).keep u2.tk).keep u3.tk, u3 _ _ upd_same⟩ (okd_of (n := 100) (by decide) (by omega) ok)
end
end K32

namespace L2
open PySem PySem.Spec PyProof.Rows
/-- != of flat things, or of tuples -/
def rNeU (K : PySem.W.Frag) : R2 := fun x y H Q => rNe x y H Q ∨ rNeT K x y H Q
theorem op_neU {X : Cx} (hu : X.A.units + 64 < cLine) : OpR X (compareOp .NotEq) (rNeU X.K) := by
  intro pins s σ H x y v u Q I rx ry h
  rcases h with h | h
  · exact op_ne pins s σ H x y v u Q I rx ry h
  · exact op_neT hu pins s σ H x y v u Q I rx ry h
end L2
namespace K32
open PySem PySem.Spec PyProof.Rows L2 GM TM
theorem pairOf_is : ∀ (us : List V) (ps : List (Str × Str)) (xs : List Str), pairOf us ps xs = .non ∨ pairOf us ps xs ∈ us
  | [], ps, xs => .inl pairOf_nil
  | _ :: _, [], xs => .inl rfl
  | u :: us, p :: ps, xs => by
    show (if _ then u else pairOf us ps xs) = .non ∨ (if _ then u else pairOf us ps xs) ∈ _
    split
    · exact .inr (List.mem_cons_self ..)
    · rcases pairOf_is us ps xs with h | h
      · exact .inl h
      · exact .inr (List.mem_cons_of_mem _ h)
theorem ne_same {K : PySem.W.Frag} {H : Hp} {us : List V} {ps : List (Str × Str)} (pt : PsT H us ps) (xs : List Str) {Q : VK} (q : Q (.bl false) H) : rNeU K (pairOf us ps xs) (pairOf us ps xs) H Q := by
  rcases pairOf_is us ps xs with h | h
  · rw [h]
    exact .inl ⟨rfl, q⟩
  · obtain ⟨i, hi⟩ := List.mem_iff_getElem?.mp h
    obtain ⟨p, hp⟩ : ∃ p, ps[i]? = some p := ⟨_, List.getElem?_eq_getElem (by rw [← pt.1]; exact (List.getElem?_eq_some_iff.mp hi).1)⟩
    obtain ⟨z, e, hz⟩ := pt.2 i _ p hi hp
    rw [e]
    refine .inr ⟨z, z, _, _, fun _ => true, rfl, rfl, SqT.of hz, SqT.of hz, fun j x y hx hy => ?_, q⟩
    match j, hx, hy with
    | 0, hx, hy => cases hx; cases hy; exact DEq.self (.inl rfl)
    | 1, hx, hy => cases hx; cases hy; exact DEq.self (.inl rfl)
def spFitsSo (K : PySem.W.Frag) : Sp := fun vs H Q _ => ∃ (p r q l : Addr) (rs us ws : List V) (ps : List (Str × Str)) (rbs : List (Int × Int)) (ds : List PD), vs = [.ref p, .ref l] ∧ FitIn K H p r q l rs us ws ps rbs ds ∧ ws.length ≤ 20 ∧ ∀ H', Same H H' → Q (.bl true) H'
theorem FitIn.keep {K : PySem.W.Frag} {H H' : Hp} {p r q l : Addr} {rs us vs : List V} {ps : List (Str × Str)} {rbs : List (Int × Int)} {ds : List PD} (h : FitIn K H p r q l rs us vs ps rbs ds) (s : Same H H') : FitIn K H' p r q l rs us vs ps rbs ds := ⟨h.bn.keep s, h.rl.keep s.tk, s.seq h.hl, h.pl.keep s.tk⟩
section
variable {P : Program} {w : World} {K : PySem.W.Frag} {mg : Str → Option Value} {base : Heap}
theorem bt_list : bootBuiltins "list" = some (.type "list") := by decide +kernel
theorem scFitsSo : FnScope ["_law_bench_here", "_law_phials", "_law_kept", "_law_found", "_law_phial_here"] ["_law_bench_here", "_law_phials"] (defScope sFitsSo) := ⟨rfl, rfl, rfl, by decide +kernel, rfl, by decide +kernel, by decide +kernel⟩
theorem ok_fitsso {f : Addr} {fd : FuncData} (F : Fun K "_law_fits_so" "_law_fits_so" sFitsSo f fd) (T : Txt mg) (cF : Cal P w K mg base CX0 5 "fit" ["bench", "phials"] (spFit K)) (cI : Cal P w K mg base CX0 5 "_law_is_fit" ["_law_bench_here", "_law_phials"] (spFit K)) (cP : Cal P w K mg base CX0 5 "pair_in" ["bench", "names"] (spPairIn K)) (cQ : Cal P w K mg base CX0 5 "_law_pair" ["_law_bench_here", "_law_names_here"] (spPairIn K)) : FnOk P w K mg base CX0 6 f fd ["_law_bench_here", "_law_phials"] (spFitsSo K) := by
  refine F.ok scFitsSo (fun vs H Q E h => ?_) (fun cdv A outer s H vs Q E hr h => ?_)
  · obtain ⟨_, _, _, _, _, _, _, _, _, _, rfl, _⟩ := h
    rfl
  · obtain ⟨p, r, q, l, rs, us, ws, ps, rbs, ds, rfl, I, wl, k⟩ := h
    refine ⟨_, (pss_cons (ps_set (i := 2) scFitsSo.nd rfl (Or.inl rfl) (pe_callTy call_list_of rfl T.list' bt_list (pa_cons (pv 1) pa_nil)))
      (pss_cons (ps_set (i := 3) scFitsSo.nd rfl (Or.inl rfl) (pe_cal cF hr rfl pass0 (pa_cons (pv 0) (pa_cons (pv 1) pa_nil))))
      (pss_cons (ps_if (PW.pt (pw_or (pt_not (pt_val (pe_callB call_isi rfl T.isi boot_isinstance (pa_cons (pv 3) (pa_cons (pe_bltn (v := .ty "bool") rfl T.bool' bt_bool rfl) pa_nil))))) (pw_or (pt_cmpR op_ne (pv 3) (pe_cal cI hr rfl pass0 (pa_cons (pv 0) (pa_cons (pv 2) pa_nil))) (nomark _)) (pw_or1 (pt_cmpR (op_neL hr.units) (pv 1) (pv 2) (nomark _))))))
        (pss_one (ps_ret pe_bl))
        pss_nil)
      (pss_cons (ps_for PassesOwn.never rfl (pi_list (pv 1)) (pg_name (i := 4) scFitsSo.nd rfl (Or.inl rfl))
        (pss_one (ps_if (pt_cmpR (op_neU hr.units) (pe_cal cP hr rfl pass0 (pa_cons (pv 0) (pa_cons (pit 4 1) pa_nil))) (pe_cal cQ hr rfl pass0 (pa_cons (pv 0) (pa_cons (pit 4 1) pa_nil))) (nomark _)) (pss_one (ps_ret pe_bl)) pss_nil)))
      (pss_one (ps_ret pe_bl)))))), ?_⟩
    refine ⟨_, rfl, l, ws, rfl, .inl I.hl, fun g hg => ?_⟩
    have t1 := Same.upd (o := .lst ws) hg
    have I1 := I.keep t1
    refine ⟨_, rfl, _, rfl, p, r, q, l, rs, us, ws, ps, rbs, ds, rfl, I1, fun H2 s2 => ?_⟩
    have I2 := I1.keep s2
    have hg2 := s2 _ _ (upd_same (H := H) (a := g) (o := .lst ws))
    refine ⟨_, rfl, _, "bool", true, rfl, .bl_bool, _, rfl, iteF ?_⟩
    refine ⟨_, rfl, _, rfl, _, rfl, p, r, q, g, rs, us, ws, ps, rbs, ds, rfl, ⟨I2.bn, I2.rl, SqL.of hg2, I2.pl⟩, fun H3 s3 => ⟨rfl, _, rfl, ite2 (fun hc => ?_) (fun _ => ?_)⟩⟩
    · exfalso
      simp at hc
    have I3 := I2.keep s3
    have hg3 := s3 _ _ hg2
    refine ⟨_, rfl, _, rfl, l, g, ws, ws, fun _ => true, rfl, rfl, I3.hl, SqL.of hg3, fun j x y hx hy => ?_, _, rfl, ?_⟩
    · rw [hx] at hy
      cases hy
      obtain ⟨d, _, ⟨a, _, _, _, rfl, _⟩, _⟩ := I3.pl.get hx
      exact .same
    rw [all_true _ _ rfl]
    refine iteF ?_
    refine ⟨_, rfl, l, rfl, ⟨_, I3.hl⟩, ?_⟩
    refine for_list (xs := ws) (fun i σ H' => ∃ v4 : Option V, σ = [some (.ref p), some (.ref l), some (.ref g), some (.bl (fitV us ps rbs ds)), v4] ∧ H' = H3) ⟨none, rfl, rfl⟩ ?_ ?_ ?_
    · rintro i σ H' _ ⟨_, rfl, rfl⟩
      exact I3.hl
    · rintro i v σ H4 hv ⟨v4, rfl, rfl⟩
      obtain ⟨d, hd, ⟨a, m, n, vs', rfl, h1, h2, h3, h4⟩, okd⟩ := I3.pl.get hv
      refine ⟨_, rfl, a, _, _, rfl, SqT.of h1, rfl, p, r, q, rs, us, ps, n, d.2.2, rfl, I3.bn, SqT.of h4, _, rfl, a, _, _, rfl, SqT.of h1, rfl, p, r, q, rs, us, ps, n, d.2.2, rfl, I3.bn, SqT.of h4, ne_same I3.bn.pt _ ⟨_, rfl, iteF ?_⟩⟩
      exact ⟨_, rfl, rfl⟩
    · rintro σ H4 ⟨v4, rfl, rfl⟩
      exact k _ ((t1.trans s2).trans s3)
end
end K32

namespace L2
open PySem PySem.Spec PyProof.Rows
/-! ### for over range(a, b, c) -/
def Itr3 (lo c : Int) (n : Nat) : It := ⟨fun i _ => i < n, fun i H x H' => H' = H ∧ x = .int (lo + (i : Nat) * c), fun i _ => n ≤ i⟩
theorem turn_range3 {P : Program} {w : World} {K : PySem.W.Frag} {tg : Expr} (it : Addr) (lo c : Int) (n : Nat) : Turn P w K tg (Itr3 lo c n) [it] it (fun i h => IsRangeIter h it (lo + (i : Nat) * c) ((n : Int) - (i : Nat)) c) where
  mem := by simp
  obj := fun i h st b hb => by
    have e : b = it := by simpa using hb
    subst e
    exact ⟨_, st, fun v z => by
      have z' : Data.fields _ = Data.cell v := z
      cases z'⟩
  keep := fun i h h' st k => k it (by simp) _ st
  item := by
    intro X hP hw hK hc i pins s σ H E I hf st hg
    subst hP hw hK
    obtain ⟨f0, f1, f2, f3, f4, f5⟩ := hf it (by simp)
    have W := Walks.range (prog := X.prog) (w := X.w) (I.ok.hd hc) it lo c n
    refine W.item i s _ _ hg st fun v h' tk hv st' kk => ?_
    obtain ⟨t, rfl⟩ := hv
    have I1 : Inv X pins σ H { s with heap := h', toks := tk } := I.turned (fun b o hb e => kk b o (by simpa using hb) e) f0 f1 f3 f4 f5
    exact ⟨_, rfl, go_of (s := { s with heap := h', toks := tk }) (n := "range_iterator") st' rfl rfl (by decide) ⟨.int (lo + (i : Nat) * c), H, I1, ⟨t, rfl⟩, ⟨rfl, rfl⟩, st', fun b hb => (hf b hb).1⟩⟩
  done := by
    intro X hP hw hK hc i pins s σ H E I hf st hg
    subst hP hw hK
    obtain ⟨f0, f1, f2, f3, f4, f5⟩ := hf it (by simp)
    exact wpAny_pyNext_range_end (I.ok.hd hc) st (by have : n ≤ i := hg; omega) fun h' eb => ⟨rfl, I.turned (t' := s.toks) (fun b o hb e => eb b o hb e) f0 f1 f3 f4 f5⟩
  self := fun _ _ _ _ _ st h => wpAny_pyIter_rangeiter st h
def iRng3 (ta : TA) : TI := fun σ H R => ta σ H fun vs H1 => ∃ i j c : Int, vs = [.int i, .int j, .int c] ∧ (-(2 ^ 20) ≤ i ∧ i ≤ 2 ^ 20 ∧ -(2 ^ 20) ≤ j ∧ j ≤ 2 ^ 20 ∧ 0 < c ∧ c ≤ 2 ^ 20) ∧ R (Itr3 i c (if i < j then (j - i - 1) / c + 1 else 0).toNat) H1
theorem pi_range3 {X : Cx} {tg e1 e2 e3 : Expr} {ta : TA} {p pos : Pos} (hg : Gl X "range") (hm : X.mg "range" = none) (ha : PA X [e1, e2, e3] ta) (hs : starEach [e1, e2, e3] X.env = [(false, eval e1 X.env), (false, eval e2 X.env), (false, eval e3 X.env)] := by rfl) (hs2 : starEach [e2, e3] X.env = [(false, eval e2 X.env), (false, eval e3 X.env)] := by rfl) :
    PI X tg (.Call (.Name "range" p) [e1, e2, e3] [] pos) (iRng3 ta) := by
  intro pins s σ H R I h
  refine Call_ (ld_blt I hg hm boot_range (PyProof.Rows.callWith_type1 (thn (ha pos pins s σ H _ I h) fun us s1 ⟨vs, H1, I1, r1, q1⟩ => ?_) (by rw [hs, hs2]) (by rw [hs2]; rfl)))
  obtain ⟨i, j, c, e, ⟨q1, q2, q3, q4, q5, q6⟩, q⟩ := q1
  subst e
  cases r1 with
  | cons r rr =>
    cases rr with
    | cons r' rr =>
      cases rr with
      | cons r'' rr =>
        cases rr
        obtain ⟨t, rfl⟩ := r
        obtain ⟨t', rfl⟩ := r'
        obtain ⟨t'', rfl⟩ := r''
        refine call_range_3 (by omega) ?_ (Or.inl (PyProof.noPylong_small (by omega)))
        have d0 : 0 ≤ (j - i - 1) / c ∨ ¬ i < j := by
          by_cases hij : i < j
          · exact .inl (Int.ediv_nonneg (by omega) (by omega))
          · exact .inr hij
        have d1 : i < j → (j - i - 1) / c ≤ (j - i) / c := fun _ => Int.ediv_le_ediv (by omega) (by omega)
        have hsz := size_pos (i := i) (j := j) q5
        have hsm : Builtin.Range.small i j c = true := by
          unfold Builtin.Range.small
          rw [hsz]
          simp only [Builtin.Range.rangeFitsLong, Bool.and_eq_true, Bool.or_eq_true, decide_eq_true_eq, beq_iff_eq, show c > 0 by omega, if_true]
          have d2 := fun h : i < j => Int.ediv_mul_le (j - i - 1) (show c ≠ 0 by omega)
          have d3 := fun h : i < j => Int.mul_le_mul_of_nonneg_left (show c ≤ 2 ^ 20 by omega) (show 0 ≤ (j - i - 1) / c + 1 by have := d0; omega)
          have d4 := fun h : i < j => Int.ediv_le_self c (show 0 ≤ j - i by omega)
          split
          · rename_i hij
            have := d2 hij
            have := d3 hij
            have := d1 hij
            have := d4 hij
            omega
          · omega
        refine wpAny_pyIter_range (IsRange.new ..) hsm ?_
        have I2 : Inv X pins σ H1 { s1 with heap := s1.heap.push { cls := .type "range", data := .fields #[.int i t, .int j t', .int c t''] } } := I1.kept (t' := s1.toks) fun b o e => Heap.get?_push_of_some _ e
        refine ⟨(s1.heap.push { cls := .type "range", data := .fields #[.int i t, .int j t', .int c t''] }).objs.size, [(s1.heap.push { cls := .type "range", data := .fields #[.int i t, .int j t', .int c t''] }).objs.size], _, _, H1, rfl,
          I2.kept (t' := s1.toks) fun b o e => Heap.get?_push_of_some _ e, turn_range3 _ i c (if i < j then (j - i - 1) / c + 1 else 0).toNat, ?_, fun b hb => ?_, q⟩
        · have e1 : i + ((0 : Nat) : Int) * c = i := by simp
          have e2 : (((if i < j then (j - i - 1) / c + 1 else 0).toNat : Nat) : Int) - ((0 : Nat) : Int) = Builtin.Range.rangeSize i j c := by
            rw [hsz]
            split <;> omega
          show IsRangeIter _ _ (i + ((0 : Nat) : Int) * c) ((((if i < j then (j - i - 1) / c + 1 else 0).toNat : Nat) : Int) - ((0 : Nat) : Int)) c
          rw [e1, e2]
          exact Heap.get?_push_size _ rfl
        · have e : b = (s1.heap.push { cls := .type "range", data := .fields #[.int i t, .int j t', .int c t''] }).objs.size := by simpa using hb
          subst e
          exact I2.fpOk (Nat.le_refl _) (I2.hok.fresh (Nat.le_refl _))
theorem for_range3 {lo c : Int} {n : Nat} {g : TG} {tb : TS} {D : Ends} {σ : St} {H : Hp} (Pv : Nat → St → Hp → Prop) (h0 : Pv 0 σ H)
    (hs : ∀ i σ H, i < n → Pv i σ H → g (.int (lo + (i : Nat) * c)) σ H fun σ2 H2 => tb { D with nx := Pv (i + 1), ct := Pv (i + 1), bk := D.nx } σ2 H2) (hd : ∀ σ H, Pv n σ H → D.nx σ H) :
    ∃ W : Nat → Nat → St → Hp → Prop, (∃ m, W 0 m σ H) ∧ ∀ i m σ H, W i m σ H →
      ((Itr3 lo c n).stop i H ∧ D.nx σ H) ∨ ((Itr3 lo c n).go i H ∧ ∃ N : St → Hp → Prop, (∀ σ' H', N σ' H' → ∃ m', m' < m ∧ W (i + 1) m' σ' H') ∧ ∀ x H', (Itr3 lo c n).yld i H x H' → g x σ H' fun σ2 H2 => tb { D with nx := N, ct := N, bk := D.nx } σ2 H2) := by
  refine ⟨fun i m σ H => m = n - i ∧ i ≤ n ∧ Pv i σ H, ⟨n, by simp, Nat.zero_le _, h0⟩, ?_⟩
  rintro i m σ H ⟨rfl, hi, p⟩
  by_cases hlt : i < n
  · refine .inr ⟨hlt, Pv (i + 1), fun σ' H' p' => ⟨n - (i + 1), by omega, rfl, hlt, p'⟩, fun v H' y => ?_⟩
    obtain ⟨e, rfl⟩ := y
    subst e
    exact hs i σ _ hlt p
  · have e : i = n := by omega
    subst e
    exact .inl ⟨Nat.le_refl _, hd σ H p⟩
end L2

namespace L2
open PySem PySem.Spec PyProof.Rows
def rEqU (K : PySem.W.Frag) : R2 := fun x y H Q => rEq x y H Q ∨ rEqT K x y H Q
theorem op_eqU {X : Cx} (hu : X.A.units + 64 < cLine) : OpR X (compareOp .Eq) (rEqU X.K) := by
  intro pins s σ H x y v u Q I rx ry h
  rcases h with h | h
  · exact op_eq pins s σ H x y v u Q I rx ry h
  · exact op_eqT hu pins s σ H x y v u Q I rx ry h
end L2
namespace K32
open PySem PySem.Spec PyProof.Rows L2 GM TM
theorem eq_same {K : PySem.W.Frag} {H : Hp} {us : List V} {ps : List (Str × Str)} (pt : PsT H us ps) (xs : List Str) {Q : VK} (q : Q (.bl true) H) : rEqU K (pairOf us ps xs) (pairOf us ps xs) H Q := by
  rcases pairOf_is us ps xs with h | h
  · rw [h]
    exact .inl ⟨rfl, q⟩
  · obtain ⟨i, hi⟩ := List.mem_iff_getElem?.mp h
    obtain ⟨p, hp⟩ : ∃ p, ps[i]? = some p := ⟨_, List.getElem?_eq_getElem (by rw [← pt.1]; exact (List.getElem?_eq_some_iff.mp hi).1)⟩
    obtain ⟨z, e, hz⟩ := pt.2 i _ p hi hp
    rw [e]
    refine .inr ⟨z, z, _, _, fun _ => true, rfl, rfl, SqT.of hz, SqT.of hz, fun j x y hx hy => ?_, q⟩
    match j, hx, hy with
    | 0, hx, hy => cases hx; cases hy; exact DEq.self (.inl rfl)
    | 1, hx, hy => cases hx; cases hy; exact DEq.self (.inl rfl)
theorem pairOf_none : ∀ (us : List V) (ps : List (Str × Str)), pairOf us ps [] = .non
  | [], ps => pairOf_nil
  | _ :: _, [] => rfl
  | u :: us, p :: ps => by
    show (if _ then u else pairOf us ps []) = .non
    rw [if_neg (fun z => nomatch z.1), pairOf_none us ps]
def spPhial (K : PySem.W.Frag) : Sp := fun vs H Q _ => ∃ (z a : Addr) (ws : List Str) (t b c n : Int), vs = [.ref z, .ref a, .int c, .int n] ∧ H z = some (.tup [.int t, .int b]) ∧ Rm t b ∧ SqL K H a (ws.map V.str) ∧ Six0 ws ∧ 0 ≤ n ∧ n ≤ 1000 ∧ ∀ v d H', Same H H' → Ph H' v d → OkD d → Q v H'
theorem PhL.nil {H : Hp} : PhL H [] [] := ⟨rfl, fun i v d h => by simp at h⟩
theorem PhL.add {H : Hp} {vs : List V} {ds : List PD} {v : V} {d : PD} (h : PhL H vs ds) (p : Ph H v d) (o : OkD d) : PhL H (vs ++ [v]) (ds ++ [d]) := by
  refine ⟨by rw [List.length_append, List.length_append, h.1]; rfl, fun j x e hx he => ?_⟩
  by_cases hj : j < vs.length
  · rw [List.getElem?_append_left hj] at hx
    rw [List.getElem?_append_left (by rw [← h.1]; exact hj)] at he
    exact h.2 j x e hx he
  · rw [List.getElem?_append_right (by omega)] at hx
    rw [List.getElem?_append_right (by rw [← h.1]; omega), ← h.1] at he
    obtain ⟨hl, _⟩ := List.getElem?_eq_some_iff.mp hx
    simp at hl
    rw [hl] at hx he
    cases hx
    cases he
    exact ⟨p, o⟩
end K32

namespace SX
open PySem PySem.Spec PyProof.Rows
/-! ### sets of texts -/
def byT (w : World) : Bool := w.params.followText "set-order"
def kv : Value → Str
  | .str x _ => x
  | _ => ⟨#[]⟩
theorem layNew_led (t : SetTable) (es : Array (Int × Value)) (c : Int) (x : Value) : (layNew t es c x).2.1.led = t.led := by
  unfold layNew
  split
  · unfold SetTable.orStandIn
    simp only
    split <;> rfl
  · rfl
theorem laid_led {m f v : Nat} {l p : Bool} {hs : Array Int} {r : SetTable × Array Nat} (h : SetTable.laid m f v l p hs = some r) : r.1.led = l ∧ r.1.plain = p := by
  unfold SetTable.laid at h
  cases e : SetTable.layClean m hs with
  | none => rw [e] at h; cases h
  | some o =>
    rw [e] at h
    cases h
    exact ⟨rfl, rfl⟩
theorem relay_led (t : SetTable) (es : Array (Int × Value)) (n : Nat) (hp : t.plain = false) : (relayAll t es n).2.1.led = t.led ∧ (relayAll t es n).2.1.plain = false := by
  unfold relayAll
  split
  · next t' o e =>
    have q := laid_led (show SetTable.laid _ _ _ t.led t.plain _ = some _ from e)
    simp only
    split
    · exact ⟨q.1, q.2.trans hp⟩
    · exact ⟨rfl, rfl⟩
  · exact ⟨rfl, rfl⟩
def setO (es : Array (Int × Value)) (ep : Nat) (t : SetTable) : Obj := { cls := .type "set", dict := none, data := .set es ep t, slots := #[] }
/-- the set at a holds just the texts ks -/
structure SetS (P : Program) (w : World) (h : Heap) (a : Addr) (ks : List Str) : Prop where
  ex : ∃ es ep t, h.get? a = some (setO es ep t) ∧ ElemsOf (strKind P w) es.toList ∧ t.fits es.size = true ∧ t.led = (!byT w) ∧ (t.plain = false ∨ es.size = 0) ∧ (es.toList.map fun e => kv e.2).Perm ks
  nd : ks.Nodup
  lt : ks.length < scanBound
def dd (ks : List Str) (x : Str) : List Str := if x ∈ ks then ks else ks ++ [x]
def ddl (ss : List Str) : List Str := ss.foldl dd []
theorem dd_mem {ks : List Str} {x y : Str} : y ∈ dd ks x ↔ y ∈ ks ∨ y = x := by
  unfold dd
  split
  · next h => exact ⟨.inl, fun z => z.elim id fun e => e ▸ h⟩
  · simp
theorem dd_nodup {ks : List Str} {x : Str} (h : ks.Nodup) : (dd ks x).Nodup := by
  unfold dd
  split
  · exact h
  · next n =>
    rw [List.nodup_append]
    refine ⟨h, by simp, fun a ha b hb => ?_⟩
    rw [List.mem_singleton.mp hb]
    exact fun e => n (e ▸ ha)
theorem dd_len {ks : List Str} {x : Str} : (dd ks x).length ≤ ks.length + 1 := by
  unfold dd
  split
  · omega
  · simp
theorem ddl_snoc (ss : List Str) (x : Str) : ddl (ss ++ [x]) = dd (ddl ss) x := by unfold ddl; rw [List.foldl_append]; rfl
theorem ddl_all : ∀ (ss acc : List Str), acc.Nodup → (ss.foldl dd acc).Nodup ∧ (∀ y, y ∈ ss.foldl dd acc ↔ y ∈ acc ∨ y ∈ ss) ∧ (ss.foldl dd acc).length ≤ acc.length + ss.length
  | [], acc, h => ⟨h, fun y => by simp, by simp⟩
  | x :: r, acc, h => by
    obtain ⟨a, b, c⟩ := ddl_all r (dd acc x) (dd_nodup h)
    refine ⟨a, fun y => ?_, ?_⟩
    · rw [List.foldl_cons, b, dd_mem, List.mem_cons]
      exact or_assoc
    · rw [List.foldl_cons, List.length_cons]
      have := dd_len (ks := acc) (x := x)
      omega
theorem ddl_len (ss : List Str) : (ddl ss).length ≤ ss.length := by
  have h := (ddl_all ss [] List.nodup_nil).2.2
  rw [List.length_nil, Nat.zero_add] at h
  exact h
theorem el_str {P : Program} {w : World} {es : List (Int × Value)} (el : ElemsOf (strKind P w) es) {e : Int × Value} (h : e ∈ es) : ∃ t, e.2 = .str (kv e.2) t := by
  obtain ⟨⟨k, hk, _⟩, _⟩ := el e h
  obtain ⟨t, ht⟩ := Value.isStrOf_shape (x := k) (v := e.2) hk
  exact ⟨t, by rw [ht]; rfl⟩
theorem el_mem {P : Program} {w : World} {es : List (Int × Value)} (el : ElemsOf (strKind P w) es) {ks : List Str} (pm : (es.map fun e => kv e.2).Perm ks) (x : Str) : x ∈ ks ↔ ∃ e ∈ es, (strKind P w).is x e.2 = true := by
  rw [← pm.mem_iff, List.mem_map]
  constructor
  · rintro ⟨e, he, rfl⟩
    obtain ⟨t, ht⟩ := el_str el he
    exact ⟨e, he, by rw [ht]; exact strKind_is P w _ t⟩
  · rintro ⟨e, he, h⟩
    obtain ⟨t, ht⟩ := Value.isStrOf_shape (x := x) (v := e.2) h
    exact ⟨e, he, by rw [ht]; rfl⟩
section
variable {P : Program} {w : World} {A : Around} {E : Value → Shared → Prop} {s : Shared}
theorem SetS.stored {h : Heap} {a : Addr} {es es' : Array (Int × Value)} {ep : Nat} {t t' : SetTable} {ks : List Str} (ho : h.get? a = some (setO es ep t)) (el : ElemsOf (strKind P w) es'.toList) (hf : t'.fits es'.size = true) (hl : t'.led = (!byT w)) (hp : t'.plain = false)
    (pm : (es'.toList.map fun e => kv e.2).Perm ks) (nd : ks.Nodup) (lt : ks.length < scanBound) : (h.update a (Obj.putSet es' t')).get? a = some (setO es' (ep + 1) t') ∧ SetS P w (h.update a (Obj.putSet es' t')) a ks := by
  have hg : (h.update a (Obj.putSet es' t')).get? a = some (setO es' (ep + 1) t') := by
    have := Heap.get?_update_self (Obj.putSet es' t') ho (by rw [putSet_of es' t' rfl]; rfl)
    rw [putSet_of es' t' rfl] at this
    exact this
  exact ⟨hg, ⟨_, _, _, hg, el, hf, hl, .inl hp, pm⟩, nd, lt⟩
theorem tail_str {g : Bool → Sem Unit} (hg : ∀ (b : Bool) (s1 : Shared) (Q' : Unit → Shared → Prop), Q' () s1 → wpAny (model P w) A (g b) Q' E s1) {a : Addr} {es es1 : Array (Int × Value)} {ep : Nat} {t t2 : SetTable} {ks : List Str} {wd : Bool} {R : Option Bool → Shared → Prop}
    (ho : s.heap.get? a = some (setO es ep t)) (el : ElemsOf (strKind P w) es1.toList) (hf : t2.fits es1.size = true) (hl : t2.led = (!byT w)) (hp : t2.plain = false) (pm : (es1.toList.map fun e => kv e.2).Perm ks) (nd : ks.Nodup) (lt : ks.length < scanBound)
    (h : ∀ h', Heap.SameBut a s.heap h' → SetS P w h' a ks → R (some true) { s with heap := h' }) :
    wpAny (model P w) A (do
        storeSet a es1 t2
        if (!wd && t2.tooFull) = true then do
            g (relayAll t2 es1 (SetTable.grown es1.size)).2.2; storeSet a (relayAll t2 es1 (SetTable.grown es1.size)).1 (relayAll t2 es1 (SetTable.grown es1.size)).2.1; pure (some true)
          else pure (some true)) R E s := by
  have sz : es1.size = ks.length := by rw [← Array.length_toList, ← List.length_map (f := fun e => kv e.2), pm.length_eq]
  refine wpAny_bind (wpAny_storeSet_of ho rfl ?_ (fits_of_scanBound (by omega)))
  obtain ⟨o1, S1⟩ := SetS.stored (P := P) (w := w) ho el hf hl hp pm nd lt
  have b1 := Heap.SameBut.update s.heap a (Obj.putSet es1 t2)
  split
  · have p2 := relayAll_perm t2 es1 (SetTable.grown es1.size)
    have f2 := relayAll_fits t2 es1 (SetTable.grown es1.size)
    have l2 := relay_led t2 es1 (SetTable.grown es1.size) hp
    generalize relayAll t2 es1 (SetTable.grown es1.size) = r at p2 f2 l2 ⊢
    obtain ⟨es2, t3, gv⟩ := r
    dsimp only at p2 f2 l2 ⊢
    have pm2 := (p2.map fun e => kv e.2).trans pm
    have sz2 : es2.size = ks.length := by rw [← Array.length_toList, ← List.length_map (f := fun e => kv e.2), pm2.length_eq]
    refine wpAny_bind (hg _ _ _ ?_)
    refine wpAny_bind (wpAny_storeSet_of o1 rfl ?_ (fits_of_scanBound (by omega)))
    obtain ⟨_, S2⟩ := SetS.stored (P := P) (w := w) o1 (el.perm p2) f2 (l2.1.trans hl) l2.2 pm2 nd lt
    exact wpAny_pure (h _ (b1.trans (Heap.SameBut.update _ a _)) S2)
  · exact wpAny_pure (h _ b1 S1)
theorem add_str {a : Addr} {ks : List Str} {x : Str} {tk : Tok} {Q : Bool → Shared → Prop} (S : SetS P w s.heap a ks) (hr : ks.length + 1 < scanBound) (h : ∀ b h', Heap.SameBut a s.heap h' → SetS P w h' a (dd ks x) → Q b { s with heap := h' }) :
    wpAny (model P w) A (setAddHashed a (.str x tk) ((strKind P w).hash x)) Q E s := by
  have S0 := S
  obtain ⟨⟨es, ep, t, ho, el, hf, hl, hp, pm⟩, nd, lt⟩ := S
  have sz : es.size = ks.length := by rw [← Array.length_toList, ← List.length_map (f := fun e => kv e.2), pm.length_eq]
  have key := strKind_is P w x tk
  have hsc : (Value.str x tk).scannable = true := rfl
  unfold setAddHashed setAddHashedIn
  refine wpAny_holding (wpAny_bind (wpAny_setState_of ho rfl hf ?_))
  dsimp only
  rw [byScan_of (knd := strKind P w) hsc (by omega) el]
  simp only [↓reduceIte]
  unfold setAddByScan
  refine wpAny_bind (wpAny_bind (wpAny_rule (wpAny_bind (wpAny_setScan_of key ho rfl hf el ?_))))
  have mem := el_mem el pm x
  cases q : List.findIdx? (fun e => (strKind P w).is x e.2) es.toList with
  | some j =>
    dsimp only
    obtain ⟨hj, hpj, _⟩ := List.findIdx?_eq_some_iff_getElem.mp q
    have hin : x ∈ ks := mem.mpr ⟨es.toList[j], List.getElem_mem hj, hpj⟩
    refine wpAny_pure (wpAny_pure ?_)
    have e : dd ks x = ks := by unfold dd; rw [if_pos hin]
    exact h false s.heap (Heap.SameBut.refl a s.heap) (by rw [e]; exact S0)
  | none =>
    dsimp only
    have hin : x ∉ ks := fun z => by
      obtain ⟨e, he, hpe⟩ := mem.mp z
      have := List.findIdx?_eq_none_iff.mp q e he
      rw [hpe] at this
      cases this
    have e : dd ks x = ks ++ [x] := by unfold dd; rw [if_neg hin]
    have hgw : ∀ (b : Bool) {s1 : Shared} {Q' : Unit → Shared → Prop}, Q' () s1 → wpAny (model P w) A (match b with | true => rule "set.scan.the-table-gave-way" | false => pure ()) Q' E s1 := fun b s1 Q' z => by
      cases b
      · exact wpAny_pure z
      · exact wpAny_rule z
    have lp := layNew_perm t es ((strKind P w).hash x) (.str x tk)
    have lf := layNew_fits t es ((strKind P w).hash x) (.str x tk)
    have ll := layNew_led t es ((strKind P w).hash x) (.str x tk)
    generalize layNew t es ((strKind P w).hash x) (.str x tk) = r at lp lf ll ⊢
    obtain ⟨es1, t1, wd, gv⟩ := r
    dsimp only at lp lf ll ⊢
    rw [Array.toList_push] at lp
    have el1 : ElemsOf (strKind P w) es1.toList := (el.push key hsc).perm lp
    have pm1 : (es1.toList.map fun e => kv e.2).Perm (dd ks x) := by
      rw [e]
      refine (lp.map _).trans ?_
      rw [List.map_append]
      exact pm.append_right _
    have nd1 := dd_nodup (x := x) nd
    have lt1 : (dd ks x).length < scanBound := by have := dd_len (ks := ks) (x := x); omega
    refine wpAny_bind (hgw _ ?_)
    split
    · refine wpAny_bind ?_
      rw [hashByValue_scannable 8 hsc]
      refine wpAny_pure ?_
      refine tail_str (ks := dd ks x) ?_ ho el1 (SetTable.fits_plain_off lf) (ll.trans hl) rfl pm1 nd1 lt1 ?_
      · intro b s1 Q' z
        cases b
        · exact wpAny_pure z
        · exact wpAny_rule z
      · intro h' sb S'
        exact wpAny_pure (h _ h' sb S')
    · next np =>
      refine wpAny_bind (wpAny_pure ?_)
      simp only [↓reduceIte]
      refine tail_str (ks := dd ks x) ?_ ho el1 lf (ll.trans hl) (by simpa using np) pm1 nd1 lt1 ?_
      · intro b s1 Q' z
        cases b
        · exact wpAny_pure z
        · exact wpAny_rule z
      · intro h' sb S'
        exact wpAny_pure (h _ h' sb S')
end
end SX

namespace SX
open PySem PySem.Spec PyProof.Rows
theorem SetS.at {P : Program} {w : World} {h h' : Heap} {a : Addr} {ks : List Str} (S : SetS P w h a ks) (k : ∀ o, h.get? a = some o → h'.get? a = some o) : SetS P w h' a ks := by
  obtain ⟨⟨es, ep, t, ho, r⟩, nd, lt⟩ := S
  exact ⟨⟨es, ep, t, k _ ho, r⟩, nd, lt⟩
theorem strs_at : ∀ {vs : List Value} {ss : List Str}, StrsAre vs ss → ∀ (i : Nat) (v : Value), vs[i]? = some v → ∃ x t, ss[i]? = some x ∧ v = .str x t
  | _, _, .nil, i, v, h => by simp at h
  | _, _, .cons y t hr, 0, v, h => by simp at h; exact ⟨y, t, rfl, h.symm⟩
  | _, _, .cons y t hr, i + 1, v, h => by
    obtain ⟨x, u, h1, h2⟩ := strs_at hr i v (by simpa using h)
    exact ⟨x, u, by simpa using h1, h2⟩
section
variable {P : Program} {w : World} {A : Around} {R : Result → Shared → Prop} {I : Addr} {fp wr : List Addr} {G : Array GenState → Array GenState → Prop} {n : Nat} {Pr : Nat → Value → Prop} {St : Nat → Shared → Prop}
theorem upd_loop (W : WalksS P w A.in1 I fp wr G n Pr St) (a : Addr) (haf : a ∉ fp) (ss : List Str) (hl : ss.length = n) (hval : ∀ i v, Pr i v → ∃ x t, ss[i]? = some x ∧ v = .str x t) (hb : n + 1 < scanBound) :
    ∀ (k i : Nat) (s : Shared), n - i = k → i ≤ n → St i s → SetS P w s.heap a (ddl (ss.take i)) → (∀ s', Moved (a :: wr) G s s' → SetS P w s'.heap a (ddl ss) → R (.ok (.ret .none)) s') →
      codeAny (model P w) A (.builtin "set.update.loop" ⟨[.ref a, .ref I], []⟩) R s := by
  have haw : a ∉ wr := fun h => haf (W.sub _ h)
  have sub : ∀ b ∈ wr, b ∈ a :: wr := fun b hb => List.mem_cons_of_mem _ hb
  intro k
  induction k with
  | zero =>
    intro i s hk hi st S q
    obtain rfl : i = n := by omega
    refine codeAny_builtin F.entry_set_update_loop ?_
    rw [Around.under_plainId F.plain_set_update_loop _]
    show wpAny _ A.in1 (pyNext (.ref I) >>= _) _ _ s
    refine wpAny_bind (W.done s _ _ st fun s' hm => ?_)
    show wpAny _ A.in1 (ret Value.none) _ _ s'
    refine wpAny_pure (q s' (hm.mono sub) ?_)
    rw [List.take_of_length_le (by omega)] at S
    exact S.at fun o e => hm.heap a o haw e
  | succ k ih =>
    intro i s hk hi st S q
    have lt : i < n := by omega
    refine codeAny_builtin F.entry_set_update_loop ?_
    rw [Around.under_plainId F.plain_set_update_loop _]
    show wpAny _ A.in1 (pyNext (.ref I) >>= _) _ _ s
    refine wpAny_bind (W.item i s _ _ lt st fun v s' hP st' hm => ?_)
    obtain ⟨x, t, hx, rfl⟩ := hval i v hP
    have S' : SetS P w s'.heap a (ddl (ss.take i)) := S.at fun o e => hm.heap a o haw e
    show wpAny _ A.in1 (holding [Value.str x t] (setAdd a (.str x t)) >>= _) _ _ s'
    refine wpAny_bind (wpAny_holding ?_)
    unfold setAdd
    refine wpAny_holding ?_
    refine wpAny_bind ((strKind P w).pyHash (k := x) (strKind_is _ _ _ _) ?_)
    have room : (ddl (ss.take i)).length + 1 < scanBound := by
      have h1 := ddl_len (ss.take i)
      rw [List.length_take] at h1
      omega
    refine add_str (s := { s' with toks := s'.toks + 1 }) S' room fun b h' sb S2 => ?_
    have S3 : SetS P w h' a (ddl (ss.take (i + 1))) := by
      have e : ss.take (i + 1) = ss.take i ++ [x] := by rw [List.take_succ, hx]; rfl
      rw [e, ddl_snoc]
      exact S2
    refine wpAny_pure ⟨plainId_quiet F.plain_set_update_loop _, ih (i + 1) _ (by omega) lt (W.frame _ s' _ _ st' (Nat.le_succ _) fun b hb o e => ?_) S3 fun s2 m2 z2 => ?_⟩
    · rw [sb.2 b (fun h : b = a => haf (by rw [← h]; exact hb))]; exact e
    · refine q s2 (Moved.trans W.gtrans ((hm.mono sub).then_heap (Nat.le_succ _) fun b o hb e => ?_) m2) z2
      rw [sb.2 b (fun h : b = a => hb (by rw [h]; exact List.mem_cons_self))]; exact e
end
section
variable {P : Program} {w : World} {A : Around} {E : Value → Shared → Prop} {s : Shared}
abbrev nuSet (w : World) : Obj := setO #[] 0 (.fresh 0 0 (!byT w))
theorem new_set (v : Value) {Q1 : Value → Shared → Prop} (h : Q1 (.ref s.heap.objs.size) { s with heap := s.heap.push (nuSet w) }) :
    codeAny (model P w) A (.call (.builtin "set.__new__") ⟨[.type "set", v], []⟩) (wants Q1 E) s := by
  refine codeAny_of_tree ?_
  show wpAny _ A.in1 (do checkBuiltinCall "set.__new__" ⟨[.type "set", v], []⟩; again (.builtin "set.__new__" ⟨[.type "set", v], []⟩)) _ _ s
  refine wpAny_bind (wpAny_of_eq (F.newCall_set_1 v) (wpAny_pure ⟨plainId_quiet F.plain_set_new _, codeAny_builtin F.entry_set_new ?_⟩))
  rw [Around.under_plainId F.plain_set_new _]
  unfold Builtin.«set.__new__» Builtin.Frozenset.newClass
  have sub := sub_set_self
  obtain ⟨hp, g, d, tk, os⟩ := s
  dsimp only
  wp_walk
  refine wpAny_askSetting (wpAny_pure ?_)
  dsimp only
  simp only [newObj]
  refine wpAny_bind (wpAny_alloc (wpAny_pure ?_))
  exact wpAny_pure h
theorem nuSet_is (h : Heap) : SetS P w (h.push (nuSet w)) h.objs.size [] :=
  ⟨⟨#[], 0, _, Heap.get?_push_size _ rfl, fun e he => by simp at he, rfl, rfl, .inr rfl, .refl _⟩, List.nodup_nil, by decide⟩
theorem call_set_strs {l : Addr} {its : Array Value} {ss : List Str} {Q : Value → Shared → Prop} (hh : A.handled = none) (hl : s.heap.IsList l its) (hi : StrsAre its.toList ss) (hb : its.size + 1 < scanBound)
    (h : ∀ (h' : Heap) (tk : Nat), SetS P w h' s.heap.objs.size (ddl ss) → (∀ b o, s.heap.get? b = some o → h'.get? b = some o) → Q (.ref s.heap.objs.size) { s with heap := h', toks := tk }) :
    wpAny (model P w) A (call (.type "set") [.ref l]) Q E s := by
  obtain ⟨c, tl, hmro⟩ := F.called_set.mro
  have hmade := F.called_set.made
  have hsub := F.called_set.sub
  refine wpAny_call (codeAny_of_tree ?_)
  show wpAny _ _ (callAny (.type "set") _) _ _ _
  refine wpAny_pure ⟨Code.quiet_builtin _ (by decide +kernel), codeAny_builtin F.entry_type_call ?_⟩
  rw [Around.under_plain (weight_type_call_type "set" [.ref l] []) rfl]
  have h1 := F.called_set.notType
  have h2 := F.called_set.canCreate
  have hct := F.typeCall_set_1 (.ref l)
  repeat (any_goals (first | assumption | wp_step))
  refine codeAny_mono (new_set (.ref l) (E := E) (Q1 := fun obj s1 => obj = .ref s.heap.objs.size ∧ s1 = { s with heap := s.heap.push (nuSet w) }) ⟨rfl, rfl⟩) fun r s1 hr => ?_
  cases r with
  | error e => exact hr
  | ok fl =>
    cases fl with
    | ret obj =>
      obtain ⟨rfl, rfl⟩ := hr
      have hS : (s.heap.push (nuSet w)).get? s.heap.objs.size = some (nuSet w) := Heap.get?_push_size _ rfl
      have hT : Shared.TypeIs { s with heap := s.heap.push (nuSet w) } (.ref s.heap.objs.size) "set" := ⟨_, hS, rfl⟩
      have hli := F.called_set.init.lookup
      have hbi := F.called_set.init.bind (.ref s.heap.objs.size)
      repeat (any_goals (first | assumption | wp_step))
      refine codeAny_mono (codeAny_call_builtin (R := wants (fun r s2 => r = .none ∧ ∃ h' tk, s2 = { s with heap := h', toks := tk } ∧ SetS P w h' s.heap.objs.size (ddl ss) ∧ (∀ b o, s.heap.get? b = some o → h'.get? b = some o)) E) F.called_set.init.plain F.entry_set_init (check_set_init_1 hT ?_)) fun r2 s2 hr2 => ?_
      · obtain ⟨ol, hol, hcl, nl, hdl⟩ := hl
        obtain ⟨ocls, odict, odata, oslots⟩ := ol
        simp only at hcl hdl
        subst hcl; subst hdl
        have hol' : (s.heap.push (nuSet w)).get? l = some { cls := .type "list", dict := odict, data := .seq its nl, slots := oslots } := Heap.get?_push_of_some _ hol
        have hsls := F.sub_list_set
        have hslf := F.sub_list_frozenset
        have hne : (Value.type "list" == Value.type "dict") = false := by decide
        have hl1 : (s.heap.push (nuSet w)).IsList l its := ⟨_, hol', rfl, nl, rfl⟩
        unfold Builtin.«set.__init__» noKeywords Builtin.Frozenset.updateFrom
        generalize hPI : pyIter = PI
        wp_walk
        subst hPI
        refine wpAny_pyIter_list hl1 ?_
        refine wpAny_bind (wpAny_runValue ?_)
        have hlS : l < s.heap.objs.size := Heap.lt_size hol
        have hh3 : A.in1.in1.in1.handled = none := by simp [hh]
        have hz : (s.heap.push (nuSet w)).objs.size = s.heap.objs.size + 1 := Heap.size_push ..
        have hneI : l ≠ (s.heap.push (nuSet w)).objs.size := by
          rw [hz]
          exact Nat.ne_of_lt (Nat.lt_succ_of_lt hlS)
        have haf : s.heap.objs.size ∉ [(s.heap.push (nuSet w)).objs.size, l] := by
          simp only [List.mem_cons, List.not_mem_nil, or_false, not_or]
          rw [hz]
          exact ⟨Nat.ne_of_lt (Nat.lt_succ_self _), Nat.ne_of_gt hlS⟩
        have hlen : ss.length = its.size := by rw [← Array.length_toList]; exact (StrsAre.length hi).symm
        refine upd_loop ((Walks.list hh3 _ l hneI its).toS) s.heap.objs.size haf ss hlen (fun i v hv => strs_at hi i v (by rw [Array.getElem?_toList]; exact hv)) hb (its.size - 0) 0 _ (by omega) (Nat.zero_le _) ⟨⟨_, Heap.get?_push_size _ rfl, rfl, rfl⟩, (hl1.push _)⟩ ((nuSet_is s.heap).at fun o e => Heap.get?_push_of_some _ e) fun s' hm S' => ?_
        obtain ⟨h', g', d', tk', os'⟩ := s'
        have eg : g' = s.gens := hm.gens
        have ed : d' = s.drawn := hm.drawn
        have eo : os' = s.os := hm.os
        subst eg; subst ed; subst eo
        show wpAny _ _ _ _ _ _
        refine wpAny_pure ?_
        show wpAny _ _ (ret Value.none) _ _ _
        refine wpAny_pure ⟨rfl, h', tk', rfl, S', fun b o e => ?_⟩
        have hb0 := Heap.lt_size e
        refine hm.heap b o ?_ (Heap.get?_push_of_some _ (Heap.get?_push_of_some _ e))
        simp only [List.mem_cons, List.not_mem_nil, or_false, not_or]
        rw [hz]
        exact ⟨Nat.ne_of_lt hb0, Nat.ne_of_lt (Nat.lt_succ_of_lt hb0)⟩
      · cases r2 with
        | error e => exact hr2
        | ok f2 =>
          cases f2 with
          | ret r =>
            obtain ⟨rfl, h', tk, rfl, S', hk'⟩ := hr2
            repeat (any_goals (first | assumption | wp_step))
            exact h _ _ S' hk'
          | _ => exact hr2.elim
    | _ => exact hr.elim
end
end SX

namespace SX
open PySem PySem.Spec PyProof.Rows
/-! ### a walk over a set of texts, in any order -/
theorem slot_si : Slot "set_iterator" "__next__" "set_iterator.__next__" := .of (owner := "set_iterator") (n := "__next__") (by rw [typeLookup_type, builtinLookup_eq_fast]; kernel_rfl) (by decide +kernel) (by decide +kernel) (by decide +kernel) (by first | exact .inl (by decide +kernel) | exact .inr (by decide +kernel)) (by rw [isSubtype_type]; kernel_rfl)
theorem entry_si : entryFor table "set_iterator.__next__" = some Builtin.«set_iterator.__next__» := entryFor_of_tree (by kernel_rfl)
theorem args_si (a : Value) : argsOk "set_iterator.__next__" ⟨[a], []⟩ := by unfold argsOk; kernel_rfl
theorem slot_sis : Slot "set_iterator" "__iter__" "set_iterator.__iter__" := .of (owner := "set_iterator") (n := "__iter__") (by rw [typeLookup_type, builtinLookup_eq_fast]; kernel_rfl) (by decide +kernel) (by decide +kernel) (by decide +kernel) (by first | exact .inl (by decide +kernel) | exact .inr (by decide +kernel)) (by rw [isSubtype_type]; kernel_rfl)
theorem entry_set_it : entryFor table "set.__iter__" = some Builtin.«frozenset.__iter__» := entryFor_alias (id' := "frozenset.__iter__") (by kernel_rfl) rfl (by decide +kernel) (by kernel_rfl)
def itO (f : Value) (i : Int) (n ep : Nat) (a : Addr) : Obj := { cls := .type "set_iterator", dict := none, data := .fields #[f, .int i 0, .ref a, .int n 0, .int ep 0], slots := #[] }
theorem erase_perm {α : Type} : ∀ {l : List α} {i : Nat} (h : i < l.length), (l[i] :: l.eraseIdx i).Perm l
  | [], _, h => by simp at h
  | x :: l, 0, h => by simp
  | x :: l, i + 1, h => by
    have := erase_perm (l := l) (i := i) (by simpa using h)
    simp only [List.getElem_cons_succ, List.eraseIdx_cons_succ]
    exact (List.Perm.swap _ _ _).trans (this.cons x)
section
variable {P : Program} {w : World} {A : Around} {E : Value → Shared → Prop} {s : Shared}
theorem choose_any {src : Source} {n : Nat} {Q : Nat → Shared → Prop} (hn : n ≠ 0) (h : ∀ i d', i < n → Q i { s with drawn := d' }) : wpAny (model P w) A (choose src n) Q E s :=
  fun _ _ _ => ⟨hn, h _ _ (Nat.mod_lt _ (by omega))⟩
theorem draw_perm {α : Type} : ∀ (n : Nat) (xs : List α) (s : Shared) (Q : List α → Shared → Prop), xs.length = n → (∀ ys d', ys.Perm xs → Q ys { s with drawn := d' }) → wpAny (model P w) A (drawOrder n xs) Q E s
  | 0, xs, s, Q, hl, h => by
    obtain rfl : xs = [] := List.length_eq_zero_iff.mp hl
    unfold drawOrder
    exact wpAny_pure (h [] s.drawn (.refl _))
  | n + 1, [], s, Q, hl, h => by cases hl
  | n + 1, x :: xs, s, Q, hl, h => by
    unfold drawOrder
    refine wpAny_bind (choose_any (by simp) fun i d' hi => ?_)
    have e : (x :: xs)[i]? = some (x :: xs)[i] := List.getElem?_eq_getElem hi
    simp only [e]
    have el : ((x :: xs).eraseIdx i).length = n := by rw [List.length_eraseIdx_of_lt hi]; simpa using hl
    refine wpAny_bind (draw_perm n _ _ _ el fun ys d2 pm => wpAny_pure ?_)
    exact h _ d2 ((pm.cons _).trans (erase_perm hi))
theorem pick_go {α : Type} (nx : Nat → Nat) : ∀ (n k : Nat) (l : List α) (o : Array α), l.length = n → (pickOrder.go nx n k l o).toList.Perm (o.toList ++ l)
  | 0, k, l, o, h => by
    obtain rfl : l = [] := List.length_eq_zero_iff.mp h
    unfold pickOrder.go
    rw [List.append_nil]
  | n + 1, k, l, o, h => by
    have lt : nx k % l.length < l.length := Nat.mod_lt _ (by omega)
    unfold pickOrder.go
    rw [List.getElem?_eq_getElem lt]
    dsimp only
    refine (pick_go nx n (k + 1) _ _ (by rw [List.length_eraseIdx_of_lt lt]; omega)).trans ?_
    rw [Array.toList_push, List.append_assoc]
    exact List.Perm.append_left _ (erase_perm lt)
theorem pick_perm {α : Type} (nx : Nat → Nat) (xs : Array α) : (pickOrder nx xs).toList.Perm xs.toList := by
  have := pick_go nx xs.size 0 xs.toList #[] (by simp)
  simpa [pickOrder] using this
theorem setDrawn_is {a : Addr} {es : Array (Int × Value)} {ep : Nat} {t : SetTable} {Q : Bool → Shared → Prop} (ho : s.heap.get? a = some (setO es ep t)) (hf : t.fits es.size = true) (h : Q (!byT w && (!t.plain && decide (es.size > 1))) s) : wpAny (model P w) A (setDrawn a) Q E s := by
  unfold setDrawn
  refine wpAny_bind (wpAny_setState_of ho rfl hf ?_)
  unfold setsByText
  refine wpAny_bind (wpAny_bind (wpAny_askSetting (wpAny_pure ?_)))
  exact wpAny_pure h
/-- the ends of a walk -/
theorem stop_it {Q : Option Value → Shared → Prop} (hh : A.handled = none) (hQ : ∀ h', (∀ b o, s.heap.get? b = some o → h'.get? b = some o) → Q none { s with heap := h' }) :
    wpAny (model P w) A.in1 (do raiseNew (← newExc (.type "StopIteration") [])) (fun (fin : Fin) s' => ∃ v, fin = .done (.ret v) ∧ wpAny (model P w) A (pure (some v)) Q E s') (fun e s' => wpAny (model P w) A (do if ← isInstance e (.type "StopIteration") then pure none else throw e) Q E s') s := by
  refine wpAny_bind ?_
  simp only [newExc, newTuple]
  refine wpAny_bind (wpAny_newObj_type ?_ (by size_fits))
  refine wpAny_bind (m := firstArgMember _ _) (wpAny_of_eq (a := Value.none) (by first | rfl | (simp only [firstArgMember]; rfl)) ?_)
  refine wpAny_newObj_type ?_ (by size_fits)
  simp only [raiseNew]
  refine wpAny_bind (wpAny_handled ?_)
  rw [show A.in1.handled = none from hh]
  refine wpAny_bind (wpAny_pure (wpAny_throw ?_))
  refine wpAny_bind (wpAny_isInstance (T := "StopIteration") (b := true) ⟨_, Heap.get?_push_size _ rfl, rfl⟩ isSubtype_stop ?_)
  exact wpAny_pure (hQ _ fun b o e => Heap.get?_push_of_some _ (Heap.get?_push_of_some _ e))
end
end SX

namespace SX
open PySem PySem.Spec PyProof.Rows
theorem entry_sis : entryFor table "set_iterator.__iter__" = some Builtin.«dict_keyiterator.__iter__» := entryFor_alias (id' := "dict_keyiterator.__iter__") (by kernel_rfl) rfl (by decide +kernel) (by kernel_rfl)
theorem args_sis (a : Value) : argsOk "set_iterator.__iter__" ⟨[a], []⟩ := by unfold argsOk; kernel_rfl
abbrev IP (ord : List Value) (i : Nat) (v : Value) : Prop := ord[i]? = some v
section
variable {P : Program} {w : World} {A : Around} {E : Value → Shared → Prop} {s : Shared} {a I : Addr} {es : Array (Int × Value)} {ep : Nat} {t : SetTable}
theorem self_it {f : Value} {i : Int} {n : Nat} {Q : Value → Shared → Prop} (hI : s.heap.get? I = some (itO f i n ep a)) (h : Q (.ref I) s) : wpAny (model P w) A (pyIter (.ref I)) Q E s := by
  refine wpAny_pyIter_slot ⟨_, hI, rfl⟩ slot_sis (wpAny_call_entry slot_sis ⟨_, hI, rfl⟩ entry_sis ?_ (args_sis _))
  show wpAny _ _ (ret (.ref I)) _ _ s
  exact wpAny_pure ⟨_, rfl, "set_iterator", _, ⟨_, hI, rfl⟩, slot_si.lookup, h⟩
theorem set_fld {f x : Value} {i : Int} {n k : Nat} {Q : Unit → Shared → Prop} (hI : s.heap.get? I = some (itO f i n ep a)) (hk : k < 5)
    (h : ∀ h', h'.get? I = some { cls := .type "set_iterator", dict := none, data := .fields (#[f, .int i 0, .ref a, .int n 0, .int ep 0].setIfInBounds k x), slots := #[] } → Heap.SameBut I s.heap h' → Q () { s with heap := h' }) :
    wpAny (model P w) A (setField (.ref I) k x) Q E s := wpAny_setField_rec hI hk h
/-- a walk whose next item setNext tells -/
theorem walk_told (hh : A.handled = none) (ne : a ≠ I) (hf : t.fits es.size = true) (ord : List Value) (sl : Nat → Nat) (hx : ∀ (A : Around) (E : Value → Shared → Prop) (i : Nat) (s : Shared) (Q : Option (Value × Nat) → Shared → Prop), i ≤ ord.length → s.heap.get? a = some (setO es ep t) → Q (ord[i]?.map fun v => (v, sl (i + 1))) s → wpAny (model P w) A (setNext a (sl i) i ep) Q E s) :
    Walks P w A I [I, a] [I] ord.length (IP ord) (fun i h => h.get? I = some (itO (.int (sl i) 0) i es.size ep a) ∧ h.get? a = some (setO es ep t)) where
  sub := fun b hb => by simp at hb; simp [hb]
  frame := fun i h h' st k => ⟨k I (by simp) _ st.1, k a (by simp) _ st.2⟩
  self := fun i s Q E st hQ => self_it st.1 hQ
  item := fun i s Q E hi st hQ => by
    obtain ⟨hI, ho⟩ := st
    unfold pyNext
    refine wpAny_bind (wpAny_attempt (wpAny_callSpecial?_slot (name := Str.ofString "__next__") ⟨_, hI, rfl⟩ slot_si (wpAny_call_entry slot_si ⟨_, hI, rfl⟩ entry_si ?_ (args_si _))))
    show wpAny _ _ (fieldsOf (.ref I) >>= _) _ _ s
    refine wpAny_bind (wpAny_fieldsOf hI rfl ?_)
    show wpAny _ _ (setEntries a >>= _) _ _ s
    refine wpAny_bind (wpAny_setEntries_of ho rfl hf ?_)
    dsimp only
    rw [if_neg (by simp)]
    simp only [Int.toNat_natCast]
    refine wpAny_bind (hx _ _ i s _ (Nat.le_of_lt hi) ho ?_)
    rw [List.getElem?_eq_getElem hi]
    dsimp only [Option.map]
    refine wpAny_bind (set_fld hI (by decide) fun h1 g1 b1 => ?_)
    refine wpAny_bind (wpAny_setField_rec (k := 1) g1 (by simp) fun h2 g2 b2 => ?_)
    refine wpAny_pure ⟨_, rfl, wpAny_pure (hQ _ h2 s.toks (List.getElem?_eq_getElem hi) ⟨?_, ?_⟩ fun b o hb e => ?_)⟩
    · rw [g2]
      rfl
    · rw [b2.2 a ne, b1.2 a ne]
      exact ho
    · have hb' : b ≠ I := by simpa using hb
      show h2.get? b = some o
      rw [b2.2 b hb', b1.2 b hb']
      exact e
  done := fun s Q E st hQ => by
    obtain ⟨hI, ho⟩ := st
    unfold pyNext
    refine wpAny_bind (wpAny_attempt (wpAny_callSpecial?_slot (name := Str.ofString "__next__") ⟨_, hI, rfl⟩ slot_si (wpAny_call_entry slot_si ⟨_, hI, rfl⟩ entry_si ?_ (args_si _))))
    show wpAny _ _ (fieldsOf (.ref I) >>= _) _ _ s
    refine wpAny_bind (wpAny_fieldsOf hI rfl ?_)
    show wpAny _ _ (setEntries a >>= _) _ _ s
    refine wpAny_bind (wpAny_setEntries_of ho rfl hf ?_)
    dsimp only
    rw [if_neg (by simp)]
    simp only [Int.toNat_natCast]
    refine wpAny_bind (hx _ _ ord.length s _ (Nat.le_refl _) ho ?_)
    rw [List.getElem?_eq_none (Nat.le_refl _)]
    dsimp only [Option.map]
    refine wpAny_bind (set_fld hI (by decide) fun h1 g1 b1 => ?_)
    refine stop_it hh fun h2 k2 => hQ h2 s.toks fun b o hb e => k2 b o ?_
    have hb' : b ≠ I := by simpa using hb
    show h1.get? b = some o
    rw [b1.2 b hb']
    exact e
/-- a walk over the places that a tuple tells -/
theorem walk_drawn (hh : A.handled = none) {tp : Addr} (ne : a ≠ I) (nt : tp ≠ I) (hf : t.fits es.size = true) (pl : List Nat) (ord : List Value) (ol : ord.length = pl.length) (hp : ∀ (i p : Nat), pl[i]? = some p → ∃ x v, es[p]? = some (x, v) ∧ ord[i]? = some v) :
    Walks P w A I [I, a, tp] [I] ord.length (IP ord) (fun i h => h.get? I = some (itO (.ref tp) i es.size ep a) ∧ h.get? a = some (setO es ep t) ∧ h.get? tp = some { cls := .type "tuple", dict := none, data := .seq (pl.map fun (p : Nat) => rawInt p).toArray, slots := #[] }) where
  sub := fun b hb => by simp at hb; simp [hb]
  frame := fun i h h' st k => ⟨k I (by simp) _ st.1, k a (by simp) _ st.2.1, k tp (by simp) _ st.2.2⟩
  self := fun i s Q E st hQ => self_it st.1 hQ
  item := fun i s Q E hi st hQ => by
    obtain ⟨hI, ho, ht⟩ := st
    obtain ⟨p, hpl⟩ : ∃ p, pl[i]? = some p := ⟨_, List.getElem?_eq_getElem (by omega)⟩
    obtain ⟨x, v, he, hv⟩ := hp i p hpl
    unfold pyNext
    refine wpAny_bind (wpAny_attempt (wpAny_callSpecial?_slot (name := Str.ofString "__next__") ⟨_, hI, rfl⟩ slot_si (wpAny_call_entry slot_si ⟨_, hI, rfl⟩ entry_si ?_ (args_si _))))
    show wpAny _ _ (fieldsOf (.ref I) >>= _) _ _ s
    refine wpAny_bind (wpAny_fieldsOf hI rfl ?_)
    show wpAny _ _ (setEntries a >>= _) _ _ s
    refine wpAny_bind (wpAny_setEntries_of ho rfl hf ?_)
    dsimp only
    rw [if_neg (by simp)]
    refine wpAny_bind (wpAny_seqItems ht rfl ?_)
    dsimp only
    have hq : ((pl.map fun (p : Nat) => rawInt p).toArray)[(Int.toNat (i : Int))]? = some (.int p 0) := by
      rw [Int.toNat_natCast, List.getElem?_toArray, List.getElem?_map, hpl]
      rfl
    rw [hq]
    dsimp only
    simp only [Int.toNat_natCast]
    refine wpAny_bind ?_
    unfold setNextDrawn
    refine wpAny_bind (wpAny_setState_of ho rfl hf ?_)
    dsimp only
    rw [if_neg (by simp), he]
    refine wpAny_pure ?_
    refine wpAny_bind (set_fld hI (by decide) fun h1 g1 b1 => ?_)
    refine wpAny_pure ⟨_, rfl, wpAny_pure (hQ _ h1 s.toks hv ⟨?_, ?_, ?_⟩ fun b o hb e => ?_)⟩
    · rw [g1]
      rfl
    · rw [b1.2 a ne]
      exact ho
    · rw [b1.2 tp nt]
      exact ht
    · have hb' : b ≠ I := by simpa using hb
      show h1.get? b = some o
      rw [b1.2 b hb']
      exact e
  done := fun s Q E st hQ => by
    obtain ⟨hI, ho, ht⟩ := st
    unfold pyNext
    refine wpAny_bind (wpAny_attempt (wpAny_callSpecial?_slot (name := Str.ofString "__next__") ⟨_, hI, rfl⟩ slot_si (wpAny_call_entry slot_si ⟨_, hI, rfl⟩ entry_si ?_ (args_si _))))
    show wpAny _ _ (fieldsOf (.ref I) >>= _) _ _ s
    refine wpAny_bind (wpAny_fieldsOf hI rfl ?_)
    show wpAny _ _ (setEntries a >>= _) _ _ s
    refine wpAny_bind (wpAny_setEntries_of ho rfl hf ?_)
    dsimp only
    rw [if_neg (by simp)]
    refine wpAny_bind (wpAny_seqItems ht rfl ?_)
    dsimp only
    have hq : ((pl.map fun (p : Nat) => rawInt p).toArray)[(Int.toNat (ord.length : Int))]? = none := by
      rw [Int.toNat_natCast, List.getElem?_toArray, List.getElem?_map, List.getElem?_eq_none (by omega)]
      rfl
    rw [hq]
    dsimp only
    refine wpAny_bind (set_fld hI (by decide) fun h0 g0 b0 => ?_)
    refine wpAny_bind (wpAny_setField_rec (k := 2) g0 (by simp) fun h1 g1 b1 => ?_)
    refine stop_it hh fun h2 k2 => hQ h2 s.toks fun b o hb e => k2 b o ?_
    have hb' : b ≠ I := by simpa using hb
    show h1.get? b = some o
    rw [b1.2 b hb', b0.2 b hb']
    exact e
end
end SX

namespace SX
open PySem PySem.Spec PyProof.Rows
section
variable {P : Program} {w : World} {A : Around} {E : Value → Shared → Prop} {s : Shared} {a I : Addr} {es : Array (Int × Value)} {ep : Nat} {t : SetTable}
theorem next_text {sl i : Nat} {Q : Option (Value × Nat) → Shared → Prop} (hb : byT w = true) (hf : t.fits es.size = true) (ho : s.heap.get? a = some (setO es ep t)) (h : Q ((pickOrder (w.params.setOrder a ep) es)[i]?.map fun e => (e.2, sl)) s) : wpAny (model P w) A (setNext a sl i ep) Q E s := by
  unfold setNext
  refine wpAny_bind (wpAny_setState_of ho rfl hf ?_)
  dsimp only
  unfold setsByText
  refine wpAny_bind (wpAny_bind (wpAny_askSetting (wpAny_pure ?_)))
  show wpAny _ _ (if byT w = true then _ else _) _ _ s
  rw [if_pos hb, if_neg (by simp)]
  refine wpAny_bind ?_
  unfold setWalk
  refine wpAny_bind (wpAny_setState_of ho rfl hf ?_)
  dsimp only
  unfold setsByText
  refine wpAny_bind (wpAny_bind (wpAny_askSetting (wpAny_pure ?_)))
  show wpAny _ _ (if byT w = true then _ else _) _ _ s
  rw [if_pos hb]
  refine wpAny_bind (wpAny_askSetting (wpAny_pure ?_))
  exact wpAny_pure h
theorem next_led {sl i : Nat} {Q : Option (Value × Nat) → Shared → Prop} (hb : byT w = false) (hf : t.fits es.size = true) (hl : t.led = true) (h1 : es.size ≤ 1) (ho : s.heap.get? a = some (setO es ep t)) (h : Q (match es[SetTable.below t.place sl]?, t.place[SetTable.below t.place sl]? with | some (_, x), some j => some (x, j + 1) | _, _ => none) s) : wpAny (model P w) A (setNext a sl i ep) Q E s := by
  unfold setNext
  refine wpAny_bind (wpAny_setState_of ho rfl hf ?_)
  dsimp only
  unfold setsByText
  refine wpAny_bind (wpAny_bind (wpAny_askSetting (wpAny_pure ?_)))
  show wpAny _ _ (if byT w = true then _ else _) _ _ s
  rw [if_neg (by rw [hb]; decide)]
  show wpAny _ _ (if (!t.plain && decide (es.size > 1)) = true then _ else _) _ _ s
  rw [if_neg (by rw [decide_eq_false (by omega)]; simp)]
  show wpAny _ _ (bind (if (!t.led && !es.isEmpty) = true then _ else _) _) _ _ s
  rw [if_neg (by rw [hl]; simp)]
  refine wpAny_bind (wpAny_pure ?_)
  exact wpAny_pure h
theorem strs_kv {P : Program} {w : World} {es : List (Int × Value)} (el : ElemsOf (strKind P w) es) : ∀ {l : List (Int × Value)}, (∀ e ∈ l, e ∈ es) → StrsAre (l.map (·.2)) (l.map fun e => kv e.2)
  | [], _ => .nil
  | e :: l, h => by
    obtain ⟨t, ht⟩ := el_str el (h e (List.mem_cons_self ..))
    have := strs_kv el (l := l) fun x hx => h x (List.mem_cons_of_mem _ hx)
    rw [List.map_cons, List.map_cons, ht]
    exact .cons _ _ this
theorem places_perm {α : Type} (es : Array α) {pl : List Nat} (pm : pl.Perm (List.range es.size)) : (pl.filterMap fun p => es[p]?).Perm es.toList := by
  have := pm.filterMap fun p => es[p]?
  rw [filterMap_getElem?_range] at this
  exact this
theorem places_at {α : Type} (es : Array α) : ∀ {pl : List Nat}, (∀ p ∈ pl, p < es.size) → ∀ (i p : Nat), pl[i]? = some p → ∃ e, es[p]? = some e ∧ (pl.filterMap fun p => es[p]?)[i]? = some e
  | [], _, i, p, h => by simp at h
  | q :: pl, hlt, i, p, h => by
    have hq := hlt q (List.mem_cons_self ..)
    have eq : es[q]? = some es[q] := Array.getElem?_eq_getElem hq
    rw [List.filterMap_cons, eq]
    cases i with
    | zero =>
      simp at h
      subst h
      exact ⟨_, eq, rfl⟩
    | succ i =>
      simp only [List.getElem?_cons_succ] at h ⊢
      exact places_at es (fun p hp => hlt p (List.mem_cons_of_mem _ hp)) i p h
theorem places_len {α : Type} (es : Array α) : ∀ {pl : List Nat}, (∀ p ∈ pl, p < es.size) → (pl.filterMap fun p => es[p]?).length = pl.length
  | [], _ => rfl
  | q :: pl, hlt => by
    have eq : es[q]? = some (es[q]'(hlt q (List.mem_cons_self ..))) := Array.getElem?_eq_getElem _
    rw [List.filterMap_cons, eq]
    simp only [List.length_cons]
    rw [places_len es fun p hp => hlt p (List.mem_cons_of_mem _ hp)]
theorem iter_set {ks : List Str} {Q : Value → Shared → Prop} (hh : A.handled = none) (S : SetS P w s.heap a ks)
    (h : ∀ I fp St ord h' d', Walks P w A I fp [I] ord.length (IP ord) St → St 0 h' → (∀ b o, s.heap.get? b = some o → h'.get? b = some o) → (∀ b ∈ fp, s.heap.objs.size ≤ b ∨ b = a) → s.heap.objs.size ≤ I → StrsAre ord (ord.map kv) → (ord.map kv).Perm ks → Q (.ref I) { s with heap := h', drawn := d' }) :
    wpAny (model P w) A (pyIter (.ref a)) Q E s := by
  obtain ⟨⟨es, ep, t, ho, el, hf, hl, hp, pm⟩, nd, lt⟩ := S
  have la : a < s.heap.objs.size := Heap.lt_size ho
  refine wpAny_pyIter_slot ⟨_, ho, rfl⟩ F.slot_set_iter (wpAny_call_entry F.slot_set_iter ⟨_, ho, rfl⟩ entry_set_it ?_ (F.args_set_iter_1 _))
  show wpAny _ _ (Builtin.Frozenset.sizeOf a >>= _) _ _ s
  refine wpAny_bind (wpAny_bind (wpAny_setEntries_of ho rfl hf (wpAny_pure ?_)))
  refine wpAny_bind (setDrawn_is ho hf ?_)
  by_cases hd : (!byT w && (!t.plain && decide (es.size > 1))) = true
  · rw [if_pos hd]
    refine wpAny_bind (draw_perm es.size (List.range es.size) s _ List.length_range fun pl d' pp => ?_)
    refine wpAny_bind (wpAny_newObj_type ?_ ?hz)
    case hz =>
      show ((pl.map fun (p : Nat) => rawInt p).toArray).size ≤ sizeLine
      rw [List.size_toArray, List.length_map, pp.length_eq, List.length_range]
      have : es.size = ks.length := by rw [← Array.length_toList, ← List.length_map (f := fun e => kv e.2), pm.length_eq]
      exact fits_of_scanBound (by omega)
    refine wpAny_bind (wpAny_setEpoch_of (o := setO es ep t) (Heap.get?_push_of_some _ ho) rfl hf ?_)
    refine wpAny_bind (wpAny_newObj_type (wpAny_pure ⟨_, rfl, "set_iterator", _, ⟨_, Heap.get?_push_size _ rfl, rfl⟩, slot_si.lookup, ?_⟩))
    have hlt : ∀ p ∈ pl, p < es.size := fun p hp => List.mem_range.mp (pp.mem_iff.mp hp)
    have sz := fun (h : Heap) (o : Obj) => Heap.size_push h o
    refine h _ _ _ ((pl.filterMap fun p => es[p]?).map (·.2)) _ d' (walk_drawn hh (a := a) (tp := s.heap.objs.size) ?_ ?_ hf pl _ (by rw [List.length_map, places_len es hlt]) fun i p hi => ?_) ⟨Heap.get?_push_size _ rfl, Heap.get?_push_of_some _ (Heap.get?_push_of_some _ ho), Heap.get?_push_of_some _ (Heap.get?_push_size _ rfl)⟩ (fun b o e => Heap.get?_push_of_some _ (Heap.get?_push_of_some _ e)) (fun b hb => ?_) ?_ ?_ ?_
    · rw [sz]
      exact Nat.ne_of_lt (Nat.lt_succ_of_lt la)
    · rw [sz]
      exact Nat.ne_of_lt (Nat.lt_succ_self _)
    · obtain ⟨e, h1, h2⟩ := places_at es hlt i p hi
      exact ⟨e.1, e.2, h1, by rw [List.getElem?_map, h2]; rfl⟩
    · simp only [List.mem_cons, List.not_mem_nil, or_false] at hb
      rcases hb with rfl | rfl | rfl
      · left
        rw [sz]
        exact Nat.le_succ _
      · exact .inr rfl
      · exact .inl (Nat.le_refl _)
    · rw [sz]
      exact Nat.le_succ _
    · rw [List.map_map]
      exact strs_kv el fun e he => (places_perm es pp).mem_iff.mp he
    · rw [List.map_map]
      exact ((places_perm es pp).map _).trans pm
  · rw [if_neg hd]
    refine wpAny_bind (wpAny_pure ?_)
    refine wpAny_bind (wpAny_setEpoch_of ho rfl hf ?_)
    refine wpAny_bind (wpAny_newObj_type (wpAny_pure ⟨_, rfl, "set_iterator", _, ⟨_, Heap.get?_push_size _ rfl, rfl⟩, slot_si.lookup, ?_⟩))
    have fpk : ∀ b ∈ [s.heap.objs.size, a], s.heap.objs.size ≤ b ∨ b = a := fun b hb => by
      simp only [List.mem_cons, List.not_mem_nil, or_false] at hb
      rcases hb with rfl | rfl
      · exact .inl (Nat.le_refl _)
      · exact .inr rfl
    cases hb : byT w with
    | true =>
      have pk := pick_perm (w.params.setOrder a ep) es
      refine h _ _ _ ((pickOrder (w.params.setOrder a ep) es).toList.map (·.2)) _ s.drawn (walk_told hh (a := a) (Nat.ne_of_lt la) hf _ (fun _ => 0) fun A E i s Q _ ho h => next_text hb hf ho ?_) ⟨Heap.get?_push_size _ rfl, Heap.get?_push_of_some _ ho⟩ (fun b o e => Heap.get?_push_of_some _ e) fpk (Nat.le_refl _) ?_ ?_
      · rw [List.getElem?_map, Array.getElem?_toList, Option.map_map] at h
        exact h
      · rw [List.map_map]
        exact strs_kv el fun e he => pk.mem_iff.mp he
      · rw [List.map_map]
        exact (pk.map _).trans pm
    | false =>
      have s1 : es.size ≤ 1 := by
        rcases hp with hp | hp
        · rw [hb, hp] at hd
          by_cases z : es.size > 1
          · exact absurd (by rw [decide_eq_true z]; rfl) hd
          · omega
        · omega
      rw [hb] at hl
      refine h _ _ _ (es.toList.map (·.2)) _ s.drawn (walk_told hh (a := a) (Nat.ne_of_lt la) hf _ (fun i => if i = 0 then 0 else t.place.getD 0 0 + 1) fun A E i s Q hi ho h => next_led hb hf hl s1 ho ?_) ⟨Heap.get?_push_size _ rfl, Heap.get?_push_of_some _ ho⟩ (fun b o e => Heap.get?_push_of_some _ e) fpk (Nat.le_refl _) ?_ ?_
      · have hpl : t.place.size = es.size := by
          simp only [SetTable.fits, Bool.and_eq_true, beq_iff_eq] at hf
          exact hf.1
        rw [List.length_map, Array.length_toList] at hi
        generalize t.place = pl at *
        obtain ⟨pl⟩ := pl
        obtain ⟨es⟩ := es
        match es, pl, hpl, i, hi with
        | [], [], _, 0, _ => exact h
        | [e], [p], _, 0, _ => exact h
        | [e], [p], _, 1, _ =>
          have e1 : SetTable.below #[p] (p + 1) = 1 := by simp [SetTable.below, SetTable.below.go]
          simp only [Nat.one_ne_zero, if_false]
          show Q (match (#[e] : Array _)[SetTable.below #[p] (p + 1)]?, (#[p] : Array _)[SetTable.below #[p] (p + 1)]? with | some (_, x), some j => some (x, j + 1) | _, _ => none) s
          rw [e1]
          exact h
        | _ :: _ :: _, _, _, _, _ => simp at s1
      · rw [List.map_map]
        exact strs_kv el fun e he => he
      · rw [List.map_map]
        exact pm
end
end SX

namespace SX
open PySem PySem.Spec PyProof.Rows
section
variable {P : Program} {w : World} {A : Around} {E : Value → Shared → Prop} {s : Shared} {a : Addr} {ks : List Str}
theorem SetS.type (S : SetS P w s.heap a ks) : s.TypeIs (.ref a) "set" := by
  obtain ⟨⟨es, ep, t, ho, _⟩, _, _⟩ := S
  exact ⟨_, ho, rfl⟩
theorem hint_set {Q : Bool → Shared → Prop} (hT : s.TypeIs (.ref a) "set") (h : Q false s) : wpAny (model P w) A (Builtin.List.listLengthHint (.ref a)) Q E s := by
  unfold Builtin.List.listLengthHint
  refine wpAny_bind (wpAny_specialOf hT PySem.F.slot_set_len.lookup ?_)
  generalize hid : ("set.__len__" : String) = id0
  wp_delta
  rw [show splitId id0 = some ("set", "__len__") from by subst hid; decide +kernel]
  subst hid
  refine wpAny_bind (wpAny_isInstance (T := "set") (b := true) hT (by rw [isSubtype_type]; kernel_rfl) ?_)
  refine wpAny_ite_split (fun z => absurd z (by decide)) (fun _ => ?_)
  refine wpAny_ite_split (fun _ => ?_) (fun z => absurd (by decide +kernel) z)
  exact wpAny_bind (wpAny_typeOf hT (wpAny_pure h))
theorem extend_set {R : Result → Shared → Prop} {L : Addr} {c : Nat} (hh : A.handled = none) (S : SetS P w s.heap a ks) (ne : L ≠ a) (res : Value) (hL : s.heap.get? L = some { cls := .type "list", data := .seq #[] c })
    (hR : ∀ h' d' tk acc c' ks', (∀ b o, b ≠ L → s.heap.get? b = some o → h'.get? b = some o) → h'.get? L = some { cls := .type "list", dict := none, data := .seq acc c', slots := #[] } → StrsAre acc.toList ks' → ks'.Perm ks → R (.ok (.ret res)) { s with heap := h', drawn := d', toks := tk }) :
    wpAny (model P w) A.in1 (Builtin.List.listExtendWith (.ref L) (.ref a) res) (fun fin s' => match fin with | .done f => R (.ok f) s' | .again c' => c'.quiet = true ∧ codeAny (model P w) A c' R s') (fun e s' => R (.error e) s') s := by
  have lL := Heap.lt_size hL
  have lt := S.lt
  unfold Builtin.List.listExtendWith
  refine wpAny_bind (wpAny_typeOf (T := "set") S.type ?_)
  have h1 : Builtin.List.listSameRef (.ref L) (.ref a) = false := by simp [Builtin.List.listSameRef, ne]
  have h2 : (Value.type "set" == Value.type "list") = false := by decide
  have h3 : (Value.type "set" == Value.type "tuple") = false := by decide
  simp only [h1, h2, h3, Bool.or_false, Bool.false_eq_true, if_false]
  refine wpAny_bind (iter_set (A := A.in1) hh S fun I fp St ord h0 d' W st keep hfp hI hs pm => ?_)
  have hLf : L ∉ fp := fun z => by
    rcases hfp L z with z | z
    · exact absurd lL (Nat.not_lt.mpr z)
    · exact ne z
  have on : ord.length ≤ sizeLine := by
    have := pm.length_eq
    rw [List.length_map] at this
    exact fits_of_scanBound (by omega)
  have hT0 : ({ s with heap := h0, drawn := d' } : Shared).TypeIs (.ref a) "set" := (S.at (h' := h0) fun o e => keep _ o e).type (s := { s with heap := h0, drawn := d' })
  have key : ∀ (h : Heap) (c1 tk : Nat), St 0 h → (∀ b o, b ≠ L → s.heap.get? b = some o → h.get? b = some o) → h.get? L = some { cls := .type "list", data := .seq #[] c1 } →
      codeAny (model P w) A (.builtin "list.extend.loop" ⟨[.ref L, .ref I, res], []⟩) R { s with heap := h, drawn := d', toks := tk } := by
    intro h c1 tk hst hk hL1
    refine codeAny_extend_loopS W.toS on L hLf res ord.length 0 _ #[] c1 rfl (Nat.zero_le _) hst hL1 (ItemsOf.nil _) fun s' acc c' hm hL' hacc => ?_
    rw [Moved.eq_with hm]
    have ea : acc.toList = ord := List.ext_getElem? fun i => by
      rw [Array.getElem?_toList]
      cases q : acc[i]? with
      | none =>
        have : acc.size ≤ i := Array.getElem?_eq_none_iff.mp q
        rw [List.getElem?_eq_none (by rw [← hacc.1]; exact this)]
      | some v => exact (hacc.2 i v q).symm
    refine hR s'.heap d' s'.toks acc c' _ (fun b o hb e => hm.heap b o (fun z => ?_) (hk b o hb e)) hL' (by rw [ea]; exact hs) pm
    rcases List.mem_cons.mp z with z | z
    · exact hb z
    · exact absurd (Heap.lt_size e) (by rw [List.mem_singleton.mp z]; exact Nat.not_lt.mpr hI)
  have hL1 := keep _ _ hL
  refine wpAny_bind (wpAny_holding (hint_set hT0 ?_))
  refine wpAny_ite_split (fun _ => ?_) (fun _ => wpAny_pure ⟨plainId_quiet PySem.F.plain_extend_loop _, key _ c s.toks st (fun b o _ e => keep b o e) hL1⟩)
  refine wpAny_bind (wpAny_rule ?_)
  refine wpAny_bind ?_
  show wpAny _ _ (updateSeq L (·.push .none) >>= fun _ => updateSeq L (·.pop)) _ _ _
  refine wpAny_bind (wpAny_updateSeq hL1 rfl ?_)
  have hL2 := Heap.get?_update_self (Obj.mapSeq (·.push Value.none)) hL1 rfl
  refine wpAny_updateSeq (hz := by seq_fits) hL2 rfl ?_
  have hL3 := Heap.get?_update_self (Obj.mapSeq (·.pop)) hL2 rfl
  refine wpAny_pure ⟨plainId_quiet PySem.F.plain_extend_loop _, key _ _ s.toks ?_ (fun b o hb e => ?_) hL3⟩
  · refine W.frame 0 _ _ st fun b hb o e => ?_
    have hbL : b ≠ L := fun h => hLf (h ▸ hb)
    exact (Heap.get?_update_other _ _ (Ne.symm hbL)).trans ((Heap.get?_update_other _ _ (Ne.symm hbL)).trans e)
  · exact (Heap.get?_update_other _ _ (Ne.symm hb)).trans ((Heap.get?_update_other _ _ (Ne.symm hb)).trans (keep b o e))
theorem collect_set {R : List Value → Shared → Prop} (hh : A.handled = none) (S : SetS P w s.heap a ks)
    (h : ∀ h' d' tk acc ks', (∀ b o, s.heap.get? b = some o → h'.get? b = some o) → StrsAre acc ks' → ks'.Perm ks → R acc { s with heap := h', drawn := d', toks := tk }) : wpAny (model P w) A (collect (.ref a)) R E s := by
  obtain ⟨⟨es, ep, t, ho, _⟩, _, _⟩ := id S
  have la := Heap.lt_size ho
  unfold collect
  refine wpAny_bind (wpAny_runValue (codeAny_builtin entry_proto_collect' ?_))
  rw [Around.under_plainId PySem.F.plain_proto_collect _]
  show wpAny _ A.in1 (newList [] >>= fun l => again (.builtin "list.__iadd__" ⟨[l, .ref a], []⟩)) _ _ s
  refine wpAny_bind (wpAny_newObj_type ?_)
  refine wpAny_pure ⟨plainId_quiet PySem.F.plain_list_iadd _, codeAny_builtin entry_list_iadd' ?_⟩
  rw [Around.under_plainId PySem.F.plain_list_iadd _]
  have hL : (s.heap.push { cls := .type "list", data := .seq ([] : List Value).toArray }).get? s.heap.objs.size = some { cls := .type "list", data := .seq #[] } := Heap.get?_push_size _ rfl
  show wpAny _ A.in1 (Builtin.List.listExtendWith (.ref s.heap.objs.size) (.ref a) (.ref s.heap.objs.size)) _ _ _
  have key := extend_set (P := P) (w := w) (A := A) (s := { s with heap := s.heap.push { cls := .type "list", data := .seq ([] : List Value).toArray } }) (ks := ks)
    (R := fun (q : Result) (s' : Shared) => ∃ h' d' tk acc c' ks', q = .ok (.ret (.ref s.heap.objs.size)) ∧ s' = { s with heap := h', drawn := d', toks := tk } ∧ (∀ b o, s.heap.get? b = some o → h'.get? b = some o) ∧ h'.get? s.heap.objs.size = some { cls := .type "list", dict := none, data := .seq acc c', slots := #[] } ∧ StrsAre acc.toList ks' ∧ ks'.Perm ks)
    hh (S.at fun o e => Heap.get?_push_of_some _ e) (Nat.ne_of_gt la) (.ref s.heap.objs.size) hL fun h' d' tk acc c' ks' k k2 k3 k4 => ⟨h', d', tk, acc, c', ks', rfl, rfl, fun b o e => k b o (Nat.ne_of_lt (Heap.lt_size e)) (Heap.get?_push_of_some _ e), k2, k3, k4⟩
  refine wpAny_mono key (fun fin s' x => ?_) fun e s' x => ?_
  · cases fin with
    | done f =>
      obtain ⟨h', d', tk, acc, c', ks', e, rfl, k, k2, k3, k4⟩ := x
      cases e
      show wpAny _ A (load s.heap.objs.size >>= _) _ _ _
      exact wpAny_bind (wpAny_load k2 (wpAny_pure (h h' d' tk acc.toList ks' k k3 k4)))
    | again c1 =>
      refine ⟨x.1, codeAny_mono x.2 fun q s2 y => ?_⟩
      obtain ⟨h', d', tk, acc, c', ks', rfl, rfl, k, k2, k3, k4⟩ := y
      show wpAny _ A (load s.heap.objs.size >>= _) _ _ _
      exact wpAny_bind (wpAny_load k2 (wpAny_pure (h h' d' tk acc.toList ks' k k3 k4)))
  · obtain ⟨_, _, _, _, _, _, e', _⟩ := x
    cases e'
theorem sorted_set {Q : Value → Shared → Prop} (hh : A.handled = none) (S : SetS P w s.heap a ks)
    (h : ∀ (h' : Heap) d' (tk : Nat) (acc : List Value) (ks' : List Str), (∀ b o, s.heap.get? b = some o → h'.get? b = some o) → StrsAre acc ks' → ks'.Perm ks →
      wpAny (model P w) A.in1 (call (.builtin "list.sort") [.ref h'.objs.size]) (fun _ s' => Q (.ref h'.objs.size) s') E { s with heap := h'.push (seqObj "list" acc.toArray 0), drawn := d', toks := tk }) :
    wpAny (model P w) A (call (.builtin "sorted") [.ref a]) Q E s := by
  have lt := S.lt
  refine Calls.call_function_entry kind_sorted plain_sorted entry_sorted (args_sorted1 _) ?_
  unfold Builtin.«sorted»
  refine wpAny_bind (m := checkCount "sorted" 1 1 _) (wpAny_pure ?_)
  refine wpAny_bind (collect_set (A := A.in1) hh S fun h' d' tk acc ks' keep hs pm => ?_)
  have hl : acc.length ≤ sizeLine := by
    rw [StrsAre.length hs, pm.length_eq]
    exact fits_of_scanBound lt
  refine wpAny_bind (wpAny_newList ?_ hl)
  refine wpAny_bind (wpAny_holding (wpAny_mono (h h' d' tk acc ks' keep hs pm) (fun _ s' x => ?_) fun _ _ e => e))
  exact wpAny_pure ⟨_, rfl, x⟩
end
end SX

namespace L2
open PySem PySem.Spec PyProof.Rows
/-! ### set(xs), sorted(set(xs)) of a list of texts -/
def SetT (P : Program) (w : World) (a : Addr) (ks : List Str) : HO := .ext fun h => SX.SetS P w h a ks
section
variable {X : Cx}
theorem Inv.drawn {pins : List (Addr × Obj)} {σ : St} {H : Hp} {s : Shared} (I : Inv X pins σ H s) (d' : Drawn) : Inv X pins σ H { s with drawn := d' } :=
  ⟨I.ok, I.os, I.bare, I.base, I.loc, I.cell, I.free, I.freeC, I.pin, I.hok, I.len⟩
def rSetS (P : Program) (w : World) (K : PySem.W.Frag) : List V → Hp → VK → Prop := fun xs H Q => ∃ a, ∃ ss : List Str, xs = [.ref a] ∧ SqL K H a (ss.map V.str) ∧ ss.length < 1000 ∧ ∀ p, H p = none → Q (.ref p) (upd H p (SetT P w p (SX.ddl ss)))
theorem call_setS (hc : X.calm = true) : CallR X (.type "set") (rSetS X.prog X.w X.K) := by
  intro pins s σ H xs us Q I r h
  obtain ⟨a, ss, rfl, hq, h1, q⟩ := h
  obtain ⟨u, rfl, rx⟩ := vals1 r
  cases rx
  obtain ⟨its, r', pl, hz⟩ := I.list hq
  have hl := r'.length
  rw [List.length_map] at hl
  refine SX.call_set_strs (I.ok.hd hc) pl.isList (by simpa using strsAre_of r') (by rw [List.size_toArray]; unfold scanBound; omega) fun h' tk S k => ?_
  obtain ⟨⟨es, ep, t, ho, _⟩, _, _⟩ := id S
  exact ⟨.ref s.heap.objs.size, _, I.laid (a := s.heap.objs.size) (o := SetT X.prog X.w s.heap.objs.size (SX.ddl ss)) (t' := tk) k (Nat.le_refl _) (show ObjOk X.prog X.w _ h' s.heap.objs.size (.ext fun h => SX.SetS X.prog X.w h s.heap.objs.size (SX.ddl ss)) from ⟨S, ⟨_, ho⟩, fun h1 h2 p k => p.at k⟩), rfl, q _ (I.hok.fresh (Nat.le_refl _))⟩
def rSortSet (P : Program) (w : World) : List V → Hp → VK → Prop := fun xs H Q => ∃ a, ∃ ks : List Str, xs = [.ref a] ∧ H a = some (SetT P w a ks) ∧ ks.length < 64 ∧ ∀ (p : Addr) (ss' : List Str), ss'.Perm ks → sortedS ss' = true → H p = none → Q (.ref p) (upd H p (.lst (ss'.map V.str)))
theorem call_sortSet (hc : X.calm = true) : CallR X (.builtin "sorted") (rSortSet X.prog X.w) := by
  intro pins s σ H xs us Q I r h
  obtain ⟨a, ks, rfl, hH, h64, q⟩ := h
  obtain ⟨u, rfl, rx⟩ := vals1 r
  cases rx
  have ok : ObjOk X.prog X.w H s.heap a (.ext fun h => SX.SetS X.prog X.w h a ks) := I.hok a _ hH
  obtain ⟨S, _, _⟩ := ok
  refine SX.sorted_set (I.ok.hd hc) S fun h' d' tk acc ks' keep hS pm => ?_
  have hlen := pm.length_eq
  have hal := StrsAre.length hS
  have hoL : (h'.push (seqObj "list" acc.toArray 0)).get? h'.objs.size = some (seqObj "list" acc.toArray 0) := Heap.get?_push_size _ rfl
  refine wpAny_call_entry slot_list_sort ⟨_, hoL, rfl⟩ entry_list_sort (list_sort_treeK strKind_oneLt hoL hS.keysOf (fun v₁ v₂ rest e => keyKind_strs (by rw [← e]; exact hS)) (by omega) fun st' hp hs => ⟨_, rfl, ?_⟩) (args_list_sort _)
  obtain ⟨ss', a1, a2, a3⟩ := sorted_out_str hS hp hs
  obtain ⟨e, he⟩ : ∃ e, (sortedHeap (h'.push (seqObj "list" acc.toArray 0)) h'.objs.size acc ((arrOf st').map (·.2))).get? h'.objs.size = some (seqObj "list" ((arrOf st').map (·.2)) e) := sortedHeap_at hoL
  have I1 := (I.drawn d').kept (t' := tk) keep
  refine ⟨.ref h'.objs.size, _, I1.laid (a := h'.objs.size) (o := .lst (ss'.map V.str)) (t' := tk) (fun b o hb' => ?_) (Nat.le_refl _) (lst_ok (its := ((arrOf st').map (·.2)).toList) (e := e) (vals_of_strs a1) ?_ (by rw [Array.toArray_toList]; exact he)), rfl, q _ ss' (a2.trans pm) a3 (I1.hok.fresh (Nat.le_refl _))⟩
  · have lt := Heap.lt_size hb'
    rw [sortedHeap_old (Nat.ne_of_lt lt) (by rw [Heap.size_push]; exact Nat.lt_succ_of_lt lt)]
    exact Heap.get?_push_of_some _ hb'
  · rw [List.length_map, a2.length_eq]
    exact sz1000 (by omega)
end
end L2

namespace L2
open PySem PySem.Spec PyProof.Rows
/-! ### statements whose reading must not be unfolded while it is found: PS and PSs under a hood -/
structure PSX (X : Cx) (st : Stmt) (t : TS) : Prop where
  h : PS X st t
structure PSB (X : Cx) (l : List Stmt) (t : TS) : Prop where
  h : PSs X l t
theorem psx_of {X : Cx} {st : Stmt} {t : TS} (h : PS X st t) : PSX X st t := ⟨h⟩
theorem psb_of {X : Cx} {l : List Stmt} {t : TS} (h : PSs X l t) : PSB X l t := ⟨h⟩
theorem psb_cons {X : Cx} {st : Stmt} {t u : TS} {rest : List Stmt} (h1 : PSX X st t) (h2 : PSB X rest u) : PSB X (st :: rest) (tSeq t u) := ⟨pss_cons h1.h h2.h⟩
theorem psx_set {X : Cx} {i : Nat} {x : Str} {e : Expr} {te : TE} {pos pos' : Pos} (hN : X.N.Nodup) (hi : X.N[i]? = some x) (hx : Loc X.env.scope x) (he : PE X e te) (hs : swapsWith e (some (.Name x pos')) pos.line X.env = pure false := by rfl) (hf : X.fn x = true ∨ X.env.scope.names.lookup x = some .local := by first | exact .inl rfl | exact .inr rfl | assumption) :
    PSX X (.Assign [.Name x pos'] e pos) (tAsg te (gName i)) := ⟨ps_set hN hi hx he hs hf⟩
end L2

namespace K32
open PySem PySem.Spec PyProof.Rows L2 GM TM
theorem okd_of3 {n : Nat} {xs : List (Str × Int × Int)} {ys : List Str} (hn : n ≤ 600) (l : xs.length ≤ 3) (h : ∀ x ∈ xs, Amt x.2.1 x.2.2 ∧ Bt n x.2.1 ∧ Bt n x.2.2) : OkD (xs, bigM xs, ys) := by
  have m0 := bigM_pos (xs := xs) fun x hx => (h x hx).1.b1
  have mb := bigM_bt (n := n) (xs := xs) fun x hx => (h x hx).2.2
  have ml : n * xs.length ≤ 1800 := Nat.le_trans (Nat.mul_le_mul hn l) (by decide)
  refine ⟨fun x hx => ⟨(h x hx).1, bigM_dvd hx⟩, m0, mb.mono (by omega), fun i => ?_⟩
  have k : ∀ x ∈ xs.take i, Bt 2801 (nOf (bigM xs) x) := fun x hx => by
    have hx' := List.mem_of_mem_take hx
    have e : Bt (n * xs.length + 1) (bigM xs / x.2.2) := mb.le (Int.ediv_nonneg (by omega) (by have := (h x hx').1.b1; omega)) (Int.ediv_le_self _ (by omega))
    exact ((h x hx').2.1.mul e).mono (by omega)
  have := sum_bt k
  refine this.mono ?_
  rw [List.length_take]
  omega
theorem bt_set : bootBuiltins "set" = some (.type "set") := by decide +kernel
def bd (i : Nat) : Nat := 130 * 2 ^ i - 5
theorem bd_step (i : Nat) : 2 * bd i + 5 ≤ bd (i + 1) := by
  unfold bd
  rw [Nat.pow_succ]
  have : 1 ≤ 2 ^ i := Nat.one_le_two_pow
  omega
theorem bd_le : ∀ {i : Nat}, i ≤ 2 → bd i ≤ 515
  | 0, _ => by decide
  | 1, _ => by decide
  | 2, _ => by decide
  | _ + 3, h => by omega
theorem cut_strs (ss : List Str) (lo hi : Option Int) : ∃ ss' : List Str, cutV (ss.map V.str) lo hi = ss'.map V.str ∧ ss'.length ≤ ss.length := by
  refine ⟨(ss.drop (HT.sIx (ss.map V.str).length 0 lo)).take (HT.sIx (ss.map V.str).length (ss.map V.str).length hi - HT.sIx (ss.map V.str).length 0 lo), ?_, ?_⟩
  · unfold cutV
    rw [List.map_take, List.map_drop]
  · rw [List.length_take, List.length_drop]
    omega
theorem six_at {ws : List Str} (h : Six0 ws) {e : Int} (h0 : 0 ≤ e) (h6 : e < 6) : ∃ x, atI (ws.map V.str) e = some (.str x) := by
  obtain ⟨n, rfl⟩ := Int.eq_ofNat_of_zero_le h0
  have lt : n < ws.length := by rw [h.l]; omega
  exact ⟨ws[n], atI_nat (by rw [List.getElem?_map, List.getElem?_eq_getElem lt]; rfl)⟩
theorem pick5 {H : Hp} {y1 y2 y3 y4 y5 : Addr} {e : Int} (h0 : 0 ≤ e) (h : e < 5) (h1 : H y1 = some (.tup [.int 1, .int 1])) (h2 : H y2 = some (.tup [.int 1, .int 2])) (h3 : H y3 = some (.tup [.int 1000000, .int 999999])) (h4 : H y4 = some (.tup [.int 2, .int 1])) (h5 : H y5 = some (.tup [.int 999999, .int 1000000])) :
    ∃ y t b, atI [V.ref y1, V.ref y2, V.ref y3, V.ref y4, V.ref y5] e = some (.ref y) ∧ H y = some (.tup [.int t, .int b]) ∧ Amt t b ∧ Bt 20 t ∧ Bt 20 b := by
  obtain ⟨n, rfl⟩ := Int.eq_ofNat_of_zero_le h0
  have : n = 0 ∨ n = 1 ∨ n = 2 ∨ n = 3 ∨ n = 4 := by omega
  rcases this with rfl | rfl | rfl | rfl | rfl
  · exact ⟨y1, 1, 1, rfl, h1, ⟨by decide, by decide, by decide +kernel⟩, bt_lt 20 (c := 1048576) (by decide) (by decide), bt_lt 20 (c := 1048576) (by decide) (by decide)⟩
  · exact ⟨y2, 1, 2, rfl, h2, ⟨by decide, by decide, by decide +kernel⟩, bt_lt 20 (c := 1048576) (by decide) (by decide), bt_lt 20 (c := 1048576) (by decide) (by decide)⟩
  · exact ⟨y3, 1000000, 999999, rfl, h3, ⟨by decide, by decide, by decide +kernel⟩, bt_lt 20 (c := 1048576) (by decide) (by decide), bt_lt 20 (c := 1048576) (by decide) (by decide)⟩
  · exact ⟨y4, 2, 1, rfl, h4, ⟨by decide, by decide, by decide +kernel⟩, bt_lt 20 (c := 1048576) (by decide) (by decide), bt_lt 20 (c := 1048576) (by decide) (by decide)⟩
  · exact ⟨y5, 999999, 1000000, rfl, h5, ⟨by decide, by decide, by decide +kernel⟩, bt_lt 20 (c := 1048576) (by decide) (by decide), bt_lt 20 (c := 1048576) (by decide) (by decide)⟩
theorem third_le {t b : Int} (h0 : 0 ≤ t) (h1 : 1 ≤ b) : t * 1 / G (t * 1) (b * 3) * b ≤ t * (b * 3 / G (t * 1) (b * 3)) := by
  have a := low_amt (t := t * 1) (b := b * 3) (by omega) (by omega)
  have l := low_l (t * 1) (b * 3)
  have r := low_r (t * 1) (b * 3)
  have g1 : 1 ≤ G (t * 1) (b * 3) := by
    have : G (t * 1) (b * 3) ≠ 0 := fun z => by rw [z] at r; omega
    have : 0 ≤ G (t * 1) (b * 3) := by unfold G; omega
    omega
  generalize t * 1 / G (t * 1) (b * 3) = u at *
  generalize b * 3 / G (t * 1) (b * 3) = v at *
  generalize G (t * 1) (b * 3) = g at *
  have e : t = u * g := by omega
  have h3 : b ≤ g * v := by rw [Int.mul_comm g v, r]; omega
  rw [e, Int.mul_assoc]
  exact Int.mul_le_mul_of_nonneg_left h3 a.t0
section
variable {P : Program} {w : World} {K : PySem.W.Frag} {mg : Str → Option Value} {base : Heap}
theorem scPhial : FnScope ["_law_room", "_law_wares_here", "_law_cell", "_law_k", "_law_number", "_law_some", "_law_part", "_law_held", "_law_left", "_law_j", "_law_much_here", "_law_beside"] ["_law_room", "_law_wares_here", "_law_cell", "_law_k"] (defScope sPhial) := ⟨rfl, rfl, rfl, by decide +kernel, rfl, by decide +kernel, by decide +kernel⟩
theorem ok_phial {f : Addr} {fd : FuncData} (F : Fun K "_law_phial" "_law_phial" sPhial f fd) (T : Txt mg) (cM : Cal P w K mg base CX0 2 "_law_mixed" ["_law_cell", "_law_k"] spMixed) (cB : Cal P w K mg base CX0 2 "_law_by" ["_law_one", "_law_other"] (spBy K)) (cT : Cal P w K mg base CX0 2 "_law_take" ["_law_one", "_law_other"] (spTake K)) : FnOk P w K mg base CX0 3 f fd ["_law_room", "_law_wares_here", "_law_cell", "_law_k"] (spPhial K) := by
  refine F.ok scPhial (fun vs H Q E h => ?_) (fun cdv A outer s H vs Q E hr h => ?_)
  · obtain ⟨_, _, _, _, _, _, _, rfl, _⟩ := h
    rfl
  · obtain ⟨z, a, ws, t, b, c, kn, rfl, hz, rm, ha, six, kn0, kn1, k⟩ := h
    refine ⟨_, PSB.h (psb_cons (psx_of (ps_set (i := 4) scPhial.nd rfl (Or.inl rfl) (pe_cal cM hr rfl pass0 (pa_cons (pv 2) (pa_cons (pv 3) pa_nil)))))
      (psb_cons (psx_of (ps_set (i := 5) scPhial.nd rfl (Or.inl rfl) (pe_callB (call_sortSet rfl) rfl T.sorted' boot_sorted (pa_cons (pe_callTy (call_setS rfl) rfl T.set' bt_set (pa_cons (pe_slice sl_list (pe_lst (pa_cons (pe_ix ix_list (pv 1) (pe_op op_mod (pe_op op_fdivB (pv 4) pe_int) pe_int) (fun _ _ => rfl)) (pa_cons (pe_ix ix_list (pv 1) (pe_op op_mod (pe_op op_fdivB (pv 4) pe_int) pe_int) (fun _ _ => rfl)) (pa_cons (pe_ix ix_list (pv 1) (pe_op op_mod (pe_op op_fdivB (pv 4) pe_int) pe_int) (fun _ _ => rfl)) pa_nil)))) po_none (po_some (pe_op op_mod (pv 4) pe_int))) pa_nil)) pa_nil))))
      (psb_cons (psx_set (i := 6) scPhial.nd rfl (Or.inl rfl) (pe_ix ix_list (pe_lst (pa_cons (pe_tup (pa_cons pe_int (pa_cons pe_int pa_nil))) (pa_cons (pe_tup (pa_cons pe_int (pa_cons pe_int pa_nil))) (pa_cons (pe_tup (pa_cons pe_int (pa_cons pe_int pa_nil))) (pa_cons (pe_tup (pa_cons pe_int (pa_cons pe_int pa_nil))) (pa_cons (pe_tup (pa_cons pe_int (pa_cons pe_int pa_nil))) pa_nil)))))) (pe_op op_mod (pe_op op_fdivB (pv 4) pe_int) pe_int) (fun _ _ => rfl)))
      (psb_of (pss_cons (ps_set (i := 7) scPhial.nd rfl (Or.inl rfl) (pe_lst pa_nil))
      (pss_cons (ps_set (i := 8) scPhial.nd rfl (Or.inl rfl) (pe_cal cB hr rfl pass0 (pa_cons (pv 0) (pa_cons (pv 6) pa_nil))))
      (pss_cons (ps_for PassesOwn.never rfl (pi_range1 rfl T.range (pa_cons (pe_callB call_len_seq rfl T.len PySem.boot_len (pa_cons (pv 5) pa_nil)) pa_nil)) (pg_name (i := 9) scPhial.nd rfl (Or.inl rfl))
        (pss_cons (ps_set (i := 10) scPhial.nd rfl (Or.inl rfl) (pv 8))
        (pss_cons (ps_if (pt_cmpR op_lt (pe_op op_add (pv 9) pe_int) (pe_callB call_len_seq rfl T.len PySem.boot_len (pa_cons (pv 5) pa_nil)) (nomark _))
          (pss_one (ps_set (i := 10) scPhial.nd rfl (Or.inl rfl) (pe_cal cB hr rfl pass0 (pa_cons (pv 8) (pa_cons (pe_tup (pa_cons pe_int (pa_cons pe_int pa_nil))) pa_nil)))))
          pss_nil)
        (pss_cons (ps_set (i := 8) scPhial.nd rfl (Or.inl rfl) (pe_cal cT hr rfl pass0 (pa_cons (pv 8) (pa_cons (pv 10) pa_nil))))
        (pss_one (ps_expr (pe_bm PySem.F.plainAttrs_list PySem.F.slot_list_append PySem.F.type_list_append mt_append (pv 7) (pa_cons (pe_tup (pa_cons (pe_ix ix_list (pv 5) (pv 9) (fun _ _ => rfl)) (pa_cons (pv 10) pa_nil))) pa_nil))))))))
      (pss_cons (ps_set (i := 11) scPhial.nd rfl (Or.inl rfl) (pe_slice sl_list (pe_lst (pa_cons (pe_ix ix_list (pv 1) (pe_op op_mod (pe_op op_fdivB (pv 4) pe_int) pe_int) (fun _ _ => rfl)) (pa_cons (pe_ix ix_list (pv 1) (pe_op op_mod (pe_op op_fdivB (pv 4) pe_int) pe_int) (fun _ _ => rfl)) pa_nil))) po_none (po_some (pe_op op_mod (pe_op op_fdivB (pv 4) pe_int) pe_int))))
      (pss_one (ps_ret (pe_tup (pa_cons (pe_callTy call_tuple_of rfl T.tup' bt_tuple (pa_cons (pv 7) pa_nil)) (pa_cons (pe_callTy call_tuple_of rfl T.tup' bt_tuple (pa_cons (pe_callB (call_sortSet rfl) rfl T.sorted' boot_sorted (pa_cons (pe_callTy (call_setS rfl) rfl T.set' bt_set (pa_cons (pe_op op_cat (pv 5) (pv 11)) pa_nil)) pa_nil)) pa_nil)) pa_nil))))))))))))), ?_⟩
    refine ⟨_, rfl, _, rfl, c, kn, rfl, kn0, kn1, fun n n0 nl => ?_⟩
    obtain ⟨w1, e1⟩ := six_at six (emod_in (n / 8) (m := 6) (by decide)).1 (emod_in (n / 8) (m := 6) (by decide)).2
    obtain ⟨w2, e2⟩ := six_at six (emod_in (n / 48) (m := 6) (by decide)).1 (emod_in (n / 48) (m := 6) (by decide)).2
    obtain ⟨w3, e3⟩ := six_at six (emod_in (n / 288) (m := 6) (by decide)).1 (emod_in (n / 288) (m := 6) (by decide)).2
    obtain ⟨sa, ea, la⟩ := cut_strs [w1, w2, w3] none (some (n % 4))
    have la3 : sa.length ≤ 3 := la
    refine ⟨_, rfl, _, rfl, _, _, rfl, rfl, ⟨by decide, b9⟩, _, _, rfl, rfl, (by show (0 : Int) < 6; decide), a, _, _, _, rfl, rfl, ha, e1, ?_⟩
    refine ⟨_, rfl, _, rfl, _, _, rfl, rfl, ⟨by decide, b9⟩, _, _, rfl, rfl, (by show (0 : Int) < 6; decide), a, _, _, _, rfl, rfl, ha, e2, ?_⟩
    refine ⟨_, rfl, _, rfl, _, _, rfl, rfl, ⟨by decide, b9⟩, _, _, rfl, rfl, (by show (0 : Int) < 6; decide), a, _, _, _, rfl, rfl, ha, e3, ?_⟩
    refine ⟨(by show 3 ≤ sizeLine; decide), fun z1 h1 => ?_⟩
    have s1 := Same.upd (o := .lst [.str w1, .str w2, .str w3]) h1
    refine ⟨_, rfl, _, _, rfl, rfl, (by show (0 : Int) < 4; decide), _, rfl, z1, _, rfl, SqL.of upd_same, fun z2 h2 => ?_⟩
    have s2 := s1.trans (Same.upd (o := .lst (cutV [.str w1, .str w2, .str w3] none (some (n % 4)))) h2)
    refine ⟨z2, sa, rfl, ea ▸ SqL.of upd_same, by omega, fun z3 h3 => ⟨z3, _, rfl, upd_same, by have := SX.ddl_len sa; omega, fun p5 ss pm st h5 => ?_⟩⟩
    have s5 := (s2.trans (Same.upd h3)).trans (Same.upd (o := .lst (ss.map V.str)) h5)
    have l5 : ss.length ≤ 3 := by rw [pm.length_eq]; have := SX.ddl_len sa; omega
    generalize hH5 : upd _ p5 (HO.lst (ss.map V.str)) = H5 at s5 ⊢
    have k5 : H5 p5 = some (.lst (ss.map V.str)) := by rw [← hH5]; exact upd_same
    refine ⟨(by show 2 ≤ sizeLine; decide), fun y1 i1 => ⟨(by show 2 ≤ sizeLine; decide), fun y2 i2 => ⟨(by show 2 ≤ sizeLine; decide), fun y3 i3 => ⟨(by show 2 ≤ sizeLine; decide), fun y4 i4 => ⟨(by show 2 ≤ sizeLine; decide), fun y5 i5 => ⟨(by show 5 ≤ sizeLine; decide), fun y6 i6 => ?_⟩⟩⟩⟩⟩⟩
    have t1 := Same.upd (o := .tup [.int 1, .int 1]) i1
    have t2 := Same.upd (o := .tup [.int 1, .int 2]) i2
    have t3 := Same.upd (o := .tup [.int 1000000, .int 999999]) i3
    have t4 := Same.upd (o := .tup [.int 2, .int 1]) i4
    have t5 := Same.upd (o := .tup [.int 999999, .int 1000000]) i5
    have t6 := Same.upd (o := .lst [.ref y1, .ref y2, .ref y3, .ref y4, .ref y5]) i6
    obtain ⟨y, tp, bp, hy, hy', ap, bt1, bt2⟩ := pick5 (emod_in (n / 4) (m := 5) (by decide)).1 (emod_in (n / 4) (m := 5) (by decide)).2 (t6 _ _ (t5 _ _ (t4 _ _ (t3 _ _ (t2 _ _ upd_same))))) (t6 _ _ (t5 _ _ (t4 _ _ (t3 _ _ upd_same)))) (t6 _ _ (t5 _ _ (t4 _ _ upd_same))) (t6 _ _ (t5 _ _ upd_same)) (t6 _ _ upd_same)
    have s6 := s5.trans (((((t1.trans t2).trans t3).trans t4).trans t5).trans t6)
    have k6 := (((((t1.trans t2).trans t3).trans t4).trans t5).trans t6) _ _ k5
    refine ⟨_, rfl, _, _, rfl, rfl, ⟨by decide, b9⟩, _, _, rfl, rfl, (by show (0 : Int) < 5; decide), y6, _, _, _, rfl, rfl, SqL.of upd_same, hy, ?_⟩
    generalize hH6 : upd _ y6 (HO.lst [.ref y1, .ref y2, .ref y3, .ref y4, .ref y5]) = H6 at s6 k6 hy' ⊢
    refine ⟨(by show 0 ≤ sizeLine; decide), fun d hd => ?_⟩
    have t7 := Same.upd (o := .lst []) hd
    have hd0 : H d = none := same_none s6 hd
    have dp : d ≠ p5 := fun e => by rw [e, k6] at hd; cases hd
    refine ⟨_, rfl, _, rfl, z, y, t, b, tp, bp, rfl, ⟨SqT.of (t7 _ _ (s6 _ _ hz)), SqT.of (t7 _ _ hy'), ⟨by have := rm.t1; omega, rm.b1, rm.g⟩, ap, rm.st.mono (by decide), rm.sb.mono (by decide), bt1.mono (by decide), bt2.mono (by decide)⟩, fun p8 H8 s8 k8 => ?_⟩
    refine ⟨_, rfl, p5, _, rfl, .inl (SqL.of (s8 _ _ (t7 _ _ k6))), _, rfl, by rw [List.length_map]; omega, by rw [List.length_map]; omega, ?_⟩
    refine for_range (fun i σ H' => ∃ (us : List V) (xs : List (Str × Int × Int)) (p : Addr) (t' b' : Int) (v9 v10 : Option V), σ = [some (.ref z), some (.ref a), some (.int c), some (.int kn), some (.int n), some (.ref p5), some (.ref y), some (.ref d), some (.ref p), v9, v10, none] ∧ Same H H' ∧ H' d = some (.lst us) ∧ PrL H' us xs ∧ xs.length = i ∧ H' p5 = some (.lst (ss.map V.str)) ∧ H' p = some (.tup [.int t', .int b']) ∧ Amt t' b' ∧ Bt (bd i) t' ∧ Bt (bd i) b' ∧ ∀ x ∈ xs, Amt x.2.1 x.2.2 ∧ Bt 520 x.2.1 ∧ Bt 520 x.2.2)
      ⟨[], [], p8, _, _, none, none, rfl, (s6.trans t7).trans s8, s8 _ _ upd_same, .nil, rfl, s8 _ _ (t7 _ _ k6), k8, low_amt (Int.mul_nonneg (by have := rm.t1; omega) ap.t0) (by have := Int.mul_le_mul rm.b1 ap.b1 (by decide) (by have := rm.b1; omega); omega), ?_, ?_, fun x h => nomatch h⟩ ?_ ?_
    · exact ((rm.st.mul bt1).div (Int.mul_nonneg (by have := rm.t1; omega) ap.t0)).mono (by decide)
    · exact ((rm.sb.mul bt2).div (Int.mul_nonneg (by have := rm.b1; omega) (by have := ap.b1; omega))).mono (by decide)
    · rintro i σ H2 hi ⟨us, xs, p, t', b', v9, v10, rfl, sm, hd2, pr, xl, k52, hp, am, bt', bb', ok⟩
      rw [List.length_map] at hi
      have i2 : i ≤ 2 := by omega
      have bl2 := bd_le i2
      obtain ⟨x, hx⟩ : ∃ x, ss[i]? = some x := ⟨_, List.getElem?_eq_getElem (by omega)⟩
      have ax : atI (ss.map V.str) ((0 : Int) + i) = some (.str x) := by rw [show ((0 : Int) + i) = ((i : Nat) : Int) by omega]; exact atI_nat (by rw [List.getElem?_map, hx]; rfl)
      refine ⟨_, rfl, _, rfl, _, _, rfl, rfl, _, rfl, p5, _, rfl, .inl (SqL.of k52), _, _, rfl, rfl, _, rfl, ?_⟩
      refine if_key (fun σ' H' => ∃ (p10 : Addr) (t10 b10 : Int), σ' = [some (.ref z), some (.ref a), some (.int c), some (.int kn), some (.int n), some (.ref p5), some (.ref y), some (.ref d), some (.ref p), some (.int ((0 : Int) + i)), some (.ref p10), none] ∧ Same H2 H' ∧ H' p10 = some (.tup [.int t10, .int b10]) ∧ Amt t10 b10 ∧ Bt (bd i + 2) t10 ∧ Bt (bd i + 2) b10 ∧ t10 * b' ≤ t' * b10) (fun key _ => ?_) (fun _ => ⟨p, t', b', rfl, Same.refl _, hp, am, bt'.mono (by omega), bb'.mono (by omega), Int.le_refl _⟩) ?_
      · refine ⟨_, rfl, (by show 2 ≤ sizeLine; decide), fun q hq => ?_⟩
        have u1 := Same.upd (o := .tup [.int 1, .int 3]) hq
        refine ⟨p, q, t', b', 1, 3, rfl, ⟨SqT.of (u1 _ _ hp), SqT.of upd_same, am, ⟨by decide, by decide, by decide +kernel⟩, bt'.mono (by omega), bb'.mono (by omega), (bt_lt 2 (c := 4) (by decide) (by decide)).mono (by decide), (bt_lt 2 (c := 4) (by decide) (by decide)).mono (by decide)⟩, fun p10 H10 s10 k10 => ?_⟩
        exact key _ _ ⟨p10, _, _, rfl, u1.trans s10, k10, low_amt (by have := am.t0; omega) (by have := am.b1; omega), ((bt'.mul (show Bt 2 1 from bt_lt 2 (c := 4) (by decide) (by decide))).div (by have := am.t0; omega)).mono (Nat.le_refl _), ((bb'.mul (show Bt 2 3 from bt_lt 2 (c := 4) (by decide) (by decide))).div (by have := am.b1; omega)).mono (Nat.le_refl _), third_le am.t0 am.b1⟩
      · rintro _ H3 ⟨p10, t10, b10, rfl, s10, k10, am10, bt10, bb10, le10⟩
        refine ⟨_, rfl, _, rfl, p, p10, t', b', t10, b10, rfl, ⟨SqT.of (s10 _ _ hp), SqT.of k10, am, am10, bt'.mono (by omega), bb'.mono (by omega), bt10.mono (by omega), bb10.mono (by omega)⟩, le10, fun p8' H4 s4 k4 => ?_⟩
        have hd4 := s4 _ _ (s10 _ _ hd2)
        refine ⟨_, rfl, .inl ⟨rfl, _, SqL.of hd4⟩, _, rfl, _, rfl, p5, _, _, _, rfl, rfl, SqL.of (s4 _ _ (s10 _ _ k52)), ax, _, rfl, (by show 2 ≤ sizeLine; decide), fun q hq => ?_⟩
        have u2 := Same.upd (o := .tup [.str x, .ref p10]) hq
        have hd5 := u2 _ _ hd4
        have qd : q ≠ d := fun e => by rw [e, hd4] at hq; cases hq
        have k10' := u2 _ _ (s4 _ _ k10)
        have pd10 : p10 ≠ d := fun e => by
          have z := s4 _ _ k10
          rw [e, hd4] at z
          cases z
        have k4' := u2 _ _ k4
        have pd8 : p8' ≠ d := fun e => by rw [e, hd5] at k4'; cases k4'
        have st := bd_step i
        have nn1 : 0 ≤ t' * b10 - t10 * b' := by omega
        have bb0 : 1 ≤ b' * b10 := by have := Int.mul_le_mul am.b1 am10.b1 (by decide) (by have := am.b1; omega); omega
        refine ⟨d, us, _, rfl, rfl, hd5, small1000 (by rw [pr.length]; omega), ?_⟩
        refine ⟨us ++ [.ref q], xs ++ [(x, t10, b10)], p8', _, _, _, _, rfl, same_own (((sm.trans s10).trans s4).trans u2) hd0, upd_same, ((((pr.keep s10.tk).keep s4.tk).keep u2.tk).keep (Tk.lst hd5)).snoc ⟨q, p10, rfl, ?_, ?_⟩, by rw [List.length_append, xl]; rfl, ?_, ?_, low_amt nn1 bb0, ?_, ?_, fun y' hy' => ?_⟩
        · rw [upd_ne qd]
          exact upd_same
        · rw [upd_ne pd10]
          exact k10'
        · rw [upd_ne (Ne.symm dp)]
          exact u2 _ _ (s4 _ _ (s10 _ _ k52))
        · rw [upd_ne pd8]
          exact k4'
        · refine (Bt.div ?_ nn1).mono st
          exact ((((bt'.mul bb10)).mono (show _ ≤ 2 * bd i + 4 by omega)).sub ((bt10.mul bb').mono (show _ ≤ 2 * bd i + 4 by omega))).mono (by omega)
        · exact ((bb'.mul bb10).div (by omega)).mono (by omega)
        · rcases List.mem_append.mp hy' with h | h
          · exact ok y' h
          · rw [List.mem_singleton.mp h]
            exact ⟨am10, bt10.mono (by omega), bb10.mono (by omega)⟩
    · rintro σ H2 ⟨us, xs, p, t', b', v9, v10, rfl, sm, hd2, pr, xl, k52, hp, am, bt', bb', ok⟩
      rw [List.length_map] at xl
      obtain ⟨w4, e4⟩ := six_at six (emod_in (n / 2048) (m := 6) (by decide)).1 (emod_in (n / 2048) (m := 6) (by decide)).2
      obtain ⟨w5, e5⟩ := six_at six (emod_in (n / 16384) (m := 6) (by decide)).1 (emod_in (n / 16384) (m := 6) (by decide)).2
      obtain ⟨sb, eb, lb⟩ := cut_strs [w4, w5] none (some (n / 131072 % 3))
      have lb2 : sb.length ≤ 2 := lb
      refine ⟨_, rfl, _, rfl, _, _, rfl, rfl, ⟨by decide, b9⟩, _, _, rfl, rfl, (by show (0 : Int) < 6; decide), a, _, _, _, rfl, rfl, sm.seq ha, e4, ?_⟩
      refine ⟨_, rfl, _, rfl, _, _, rfl, rfl, ⟨by decide, b9⟩, _, _, rfl, rfl, (by show (0 : Int) < 6; decide), a, _, _, _, rfl, rfl, sm.seq ha, e5, ?_⟩
      refine ⟨(by show 2 ≤ sizeLine; decide), fun q1 g1 => ?_⟩
      have u1 := Same.upd (o := .lst [.str w4, .str w5]) g1
      refine ⟨_, rfl, _, _, rfl, rfl, ⟨by decide, b9⟩, _, _, rfl, rfl, (by show (0 : Int) < 3; decide), _, rfl, q1, _, rfl, SqL.of upd_same, fun q2 g2 => ?_⟩
      have u2 := u1.trans (Same.upd (o := .lst (cutV [.str w4, .str w5] none (some (n / 131072 % 3)))) g2)
      have k11 : upd (upd H2 q1 (.lst [.str w4, .str w5])) q2 (.lst (cutV [.str w4, .str w5] none (some (n / 131072 % 3)))) q2 = some (.lst (sb.map V.str)) := by rw [← eb]; exact upd_same
      generalize hH11 : upd (upd H2 q1 (.lst [.str w4, .str w5])) q2 (.lst (cutV [.str w4, .str w5] none (some (n / 131072 % 3)))) = H11 at u2 k11 ⊢
      refine ⟨_, rfl, d, us, rfl, .inl ⟨SqL.of (u2 _ _ hd2), fun r hr' => ?_⟩⟩
      have u3 := Same.upd (o := .tup us) hr'
      refine ⟨_, rfl, _, rfl, p5, q2, _, _, rfl, rfl, u3 _ _ (u2 _ _ k52), u3 _ _ k11, by rw [List.length_map, List.length_map]; exact sz1000 (by omega), fun q3 g3 => ?_⟩
      have u4 := Same.upd (o := .lst (ss.map V.str ++ sb.map V.str)) g3
      have ll : (ss ++ sb).length ≤ 5 := by rw [List.length_append]; omega
      refine ⟨q3, ss ++ sb, rfl, by rw [List.map_append]; exact SqL.of upd_same, by omega, fun q4 g4 => ⟨q4, _, rfl, upd_same, by have := SX.ddl_len (ss ++ sb); omega, fun q5 sq pm' st' g5 => ?_⟩⟩
      have u5 := Same.upd (o := SetT P w q4 (SX.ddl (ss ++ sb))) g4
      have u6 := Same.upd (o := .lst (sq.map V.str)) g5
      refine ⟨q5, _, rfl, .inl ⟨SqL.of upd_same, fun q6 g6 => ⟨(by show 2 ≤ sizeLine; decide), fun q7 g7 => ?_⟩⟩⟩
      have u7 := Same.upd (o := .tup (sq.map V.str)) g6
      have u8 := Same.upd (o := .tup [.ref r, .ref q6]) g7
      have uu := (((u4.trans u5).trans u6).trans u7).trans u8
      exact k (.ref q7) (xs, bigM xs, sq) _ (((sm.trans u2).trans u3).trans uu) ⟨q7, r, q6, us, rfl, upd_same, uu _ _ upd_same, ((pr.keep u2.tk).keep u3.tk).keep uu.tk, u8 _ _ upd_same⟩ (okd_of3 (n := 520) (by decide) (by omega) ok)
end
end K32

namespace K32
open PySem PySem.Spec PyProof.Rows L2 GM TM
def spLaw (K : PySem.W.Frag) : Sp := fun vs H Q _ => ∃ (a : Addr) (ns : List Int), vs = [.ref a] ∧ SqL K H a (ns.map V.int) ∧ ns.length ≤ 63 ∧ ∀ H', Q (.bl true) H'
theorem phl_of {H : Hp} : ∀ {vs : List V}, (∀ v ∈ vs, ∃ d, Ph H v d ∧ OkD d) → ∃ ds, PhL H vs ds
  | [], _ => ⟨[], PhL.nil⟩
  | v :: vs, h => by
    obtain ⟨d, hd, ho⟩ := h v (List.mem_cons_self ..)
    obtain ⟨ds, l, g⟩ := phl_of (vs := vs) fun u hu => h u (List.mem_cons_of_mem _ hu)
    refine ⟨d :: ds, by rw [List.length_cons, List.length_cons, l], fun i u e hu he => ?_⟩
    cases i with
    | zero =>
      cases hu
      cases he
      exact ⟨hd, ho⟩
    | succ i => exact g i u e (by simpa using hu) (by simpa using he)
section
variable {P : Program} {w : World} {K : PySem.W.Frag} {mg : Str → Option Value} {base : Heap}
theorem ndL : (["_law_k", "_law_wares_here", "_law_script", "_law_start"] : List Str).Nodup := by decide +kernel
theorem scLaw : FnScope ["_law_script", "_law_wares_here", "_law_bench_here", "_law_many", "_law_start", "_law_phials", "_law_k", "_law_room", "_law_names_here"] ["_law_script"] (defScope sLaw) := ⟨rfl, rfl, rfl, by decide +kernel, rfl, by decide +kernel, by decide +kernel⟩
theorem ok_law {f : Addr} {fd : FuncData} (F : Fun K "law" "law" sLaw f fd) (T : Txt mg) (cC : Cal P w K mg base CX0 6 "_law_cell_at" ["_law_script", "_law_k"] (spCell K)) (cW : Cal P w K mg base CX0 6 "_law_wares" ["_law_cell"] spWares) (cB : Cal P w K mg base CX0 6 "_law_bench" ["_law_script", "_law_wares_here"] (spBench K))
    (cP : Cal P w K mg base CX0 6 "_law_phial" ["_law_room", "_law_wares_here", "_law_cell", "_law_k"] (spPhial K)) (cF : Cal P w K mg base CX0 6 "_law_free_phial" ["_law_wares_here", "_law_left"] (spFreePh K)) (cS : Cal P w K mg base CX0 6 "_law_fits_so" ["_law_bench_here", "_law_phials"] (spFitsSo K))
    (cI : Cal P w K mg base CX0 6 "pair_in" ["bench", "names"] (spPairIn K)) (cL : Cal P w K mg base CX0 6 "_law_pair" ["_law_bench_here", "_law_names_here"] (spPairIn K)) : FnOk P w K mg base CX0 7 f fd ["_law_script"] (spLaw K) := by
  refine F.ok scLaw (fun vs H Q E h => ?_) (fun cdv A outer s H vs Q E hr h => ?_)
  · obtain ⟨_, _, rfl, _⟩ := h
    rfl
  · obtain ⟨a, ns, rfl, hS, _, k⟩ := h
    refine ⟨_, (pss_cons (ps_set (i := 1) scLaw.nd rfl (Or.inr rfl) (pe_cal cW hr rfl pass0 (pa_cons (pe_cal cC hr rfl pass0 (pa_cons (pv 0) (pa_cons pe_int pa_nil))) pa_nil)))
      (pss_cons (ps_set (i := 2) scLaw.nd rfl (Or.inl rfl) (pe_cal cB hr rfl pass0 (pa_cons (pv 0) (pa_cons (pv 1) pa_nil))))
      (pss_cons (ps_set (i := 3) scLaw.nd rfl (Or.inl rfl) (pe_callB call_len_seq rfl T.len PySem.boot_len (pa_cons (pit 2 0) pa_nil)))
      (pss_cons (ps_if (pt_cmpR op_eq (pe_op op_mod (pe_cal cC hr rfl pass0 (pa_cons (pv 0) (pa_cons pe_int pa_nil))) pe_int) pe_int (nomark _))
        (pss_one (ps_set (i := 3) scLaw.nd rfl (Or.inl rfl) (pe_op op_sub (pe_op op_add (pv 3) pe_int) (pe_op op_mulB pe_int (pe_op op_mod (pe_op op_fdivB (pe_cal cC hr rfl pass0 (pa_cons (pv 0) (pa_cons pe_int pa_nil))) pe_int) pe_int)))))
        pss_nil)
      (pss_cons (ps_for PassesOwn.never rfl (pi_range3 rfl T.range (pa_cons pe_int (pa_cons (pe_callB (call_max2 rfl) rfl T.max' boot_max (pa_cons pe_int (pa_cons (pe_callB (call_min2 rfl) rfl T.min' boot_min (pa_cons (pe_callB call_len_seq rfl T.len PySem.boot_len (pa_cons (pv 0) pa_nil)) (pa_cons pe_int pa_nil))) pa_nil))) (pa_cons pe_int pa_nil)))) (pg_name (i := 4) scLaw.nd rfl (Or.inr rfl))
        (pss_cons (ps_set (i := 5) scLaw.nd rfl (Or.inl rfl) (pe_lst pa_nil))
        (pss_cons (ps_for PassesOwn.never rfl (pi_range1 rfl T.range (pa_cons (pv 3) pa_nil)) (pg_name (i := 6) scLaw.nd rfl (Or.inl rfl))
          (pss_cons (ps_set (i := 7) scLaw.nd rfl (Or.inl rfl) (pe_ix ix_tup (pit 2 0) (pe_op op_mod (pv 6) (pe_callB call_len_seq rfl T.len PySem.boot_len (pa_cons (pit 2 0) pa_nil))) (fun _ _ => rfl)))
          (pss_one (ps_expr (pe_bm PySem.F.plainAttrs_list PySem.F.slot_list_append PySem.F.type_list_append mt_append (pv 5) (pa_cons (pe_cal cP hr rfl pass0 (pa_cons (pv 7) (pa_cons (pv 1) (pa_cons (pe_cal cC hr rfl pass0 (pa_cons (pv 0) (pa_cons (pe_op op_add (pv 4) (pe_op op_mod (pv 6) pe_int)) pa_nil))) (pa_cons (pe_op op_add (pv 4) (pv 6)) pa_nil))))) pa_nil))))))
        (pss_cons (ps_if (pt_cmpR op_eq (pe_op op_mod (pe_cal cC hr rfl pass0 (pa_cons (pv 0) (pa_cons pe_int pa_nil))) pe_int) pe_int (nomark _))
          (pss_one (ps_compC (iy := 5) (N' := ["_law_k", "_law_wares_here", "_law_script", "_law_start"]) (fun σ => [none, some 1, some 0, some 4].map fun t => t.bind fun j => (σ[j]?).join) rfl rfl (by decide +kernel) (by decide +kernel)
            (hk_of (sc := defScope sLaw) rfl (by decide +kernel)) (fun _ _ _ => blkN_by (sc := defScope sLaw) (N := ["_law_script", "_law_wares_here", "_law_bench_here", "_law_many", "_law_start", "_law_phials", "_law_k", "_law_room", "_law_names_here"]) [none, some 1, some 0, some 4] rfl rfl rfl rfl (by decide +kernel))
            (pi_range1 rfl T.range (pa_cons (pv 3) pa_nil)) (fun _ _ _ _ _ _ => pg_name (i := 0) ndL rfl (Or.inl rfl)) (fun _ _ _ _ _ _ => pifs_nil)
            (fun _ _ _ _ _ _ => pe_cal cF hr rfl pass0 (pa_cons (pv 1) (pa_cons (pe_lst (pa_cons (pe_callB call_abs rfl T.abs' bt_abs (pa_cons (pe_cal cC hr rfl pass0 (pa_cons (pv 2) (pa_cons (pe_op op_add (pv 3) (pv 0)) pa_nil))) pa_nil)) pa_nil)) pa_nil))) scLaw.nd rfl (Or.inl rfl) (Or.inr rfl) rfl))
          pss_nil)
        (pss_one (ps_if (pt_not (pt_val (pe_cal cS hr rfl pass0 (pa_cons (pv 2) (pa_cons (pv 5) pa_nil)))))
          (pss_one (ps_ret pe_bl))
          pss_nil))))))
      (pss_cons (ps_set (i := 8) scLaw.nd rfl (Or.inl rfl) (pe_callTy call_tuple_of rfl T.tup' bt_tuple (pa_cons (pe_callB call_sortS rfl T.sorted' boot_sorted (pa_cons (pv 1) pa_nil)) pa_nil)))
      (pss_one (ps_ret (pe_and (pe_cmpR (op_eqU hr.units) (pe_cal cI hr rfl pass0 (pa_cons (pv 2) (pa_cons (pv 8) pa_nil))) (pe_cal cL hr rfl pass0 (pa_cons (pv 2) (pa_cons (pv 8) pa_nil))) (nomark _)) (pe_one (pe_cmpR op_isN (pe_cal cI hr rfl pass0 (pa_cons (pv 2) (pa_cons (pe_tup pa_nil) pa_nil))) pe_non (nomark _)))))))))))), ?_⟩
    refine ⟨_, rfl, a, ns, 0, rfl, hS, by decide, fun c0 => ⟨c0, rfl, fun ws wa H1 wl nd wr s1 hw0 hw => ?_⟩⟩
    have six0 : Six0 ws := ⟨wl, nd, wr⟩
    have hS1 := s1.seq hS
    refine ⟨_, rfl, _, rfl, a, ns, wa, ws, rfl, hS1, SqL.of hw, six0, fun p r q rs us ps H2 s2 bn => ?_⟩
    have hS2 := s2.seq hS1
    have hw2 := s2 _ _ hw
    have hp2 : SqT K H2 p [.ref r, .ref q] := SqT.of bn.hp
    have l1 := bn.l1
    have l16 := bn.l16
    refine ⟨p, _, _, rfl, hp2, rfl, r, rs, rfl, .inr (SqT.of bn.hr), ?_⟩
    refine ⟨_, rfl, a, ns, 3, rfl, hS2, by decide, fun c3 => ⟨_, _, rfl, rfl, (by show (0 : Int) < 6; decide), rfl, _, rfl, ?_⟩⟩
    refine if_key (fun σ' H' => ∃ m : Int, 0 ≤ m ∧ m ≤ 17 ∧ σ' = [some (.ref a), some (.ref wa), some (.ref p), some (.int m), none, none, none, none, none] ∧ H' = H2) (fun key _ => ?_) (fun _ => ⟨_, by omega, by omega, rfl, rfl⟩) ?_
    · refine ⟨_, rfl, _, _, rfl, rfl, _, rfl, a, ns, 3, rfl, hS2, by decide, fun c4 => ?_⟩
      have e2 := emod_in (c4 / 6) (m := 2) (by decide)
      refine ⟨_, _, rfl, rfl, ⟨by decide, b9⟩, _, _, rfl, rfl, (by show (0 : Int) < 2; decide), _, _, rfl, rfl, ⟨bl, b6 (bt_lt 64 (c := 100) e2.1 (by omega))⟩, _, _, rfl, rfl, ?_⟩
      exact key _ _ ⟨_, by omega, by omega, rfl, rfl⟩
    rintro _ Hx ⟨m, m0, m17, rfl, ex⟩
    rw [ex]
    clear ex Hx
    refine ⟨_, rfl, a, _, rfl, .inl hS2, _, _, rfl, _, _, rfl, 4, _, 4, rfl, ?_, ?_⟩
    · split <;> split <;> omega
    generalize hj : (if (5 : Int) < (if (63 : Int) < ((ns.map V.int).length : Int) then (63 : Int) else ((ns.map V.int).length : Int)) then (if (63 : Int) < ((ns.map V.int).length : Int) then (63 : Int) else ((ns.map V.int).length : Int)) else (5 : Int)) = j
    have j63 : j ≤ 63 := by
      rw [← hj]
      split <;> split <;> omega
    refine for_range3 (fun i σ H' => ∃ (v4 v5 v6 v7 : Option V), σ = [some (.ref a), some (.ref wa), some (.ref p), some (.int m), v4, v5, v6, v7, none] ∧ Same H2 H') ⟨none, none, none, none, rfl, Same.refl _⟩ ?_ ?_
    · rintro i σ H3 hi ⟨v4, v5, v6, v7, rfl, s3⟩
      have i15 : (4 : Int) + (i : Nat) * 4 ≤ 63 := by
        have hi' := hi
        split at hi' <;> omega
      generalize hst : (4 : Int) + (i : Nat) * 4 = st at i15 ⊢
      have st4 : 4 ≤ st := by omega
      refine ⟨(by show 0 ≤ sizeLine; decide), fun l hl => ?_⟩
      have hl2 : H2 l = none := same_none s3 hl
      have u1 := Same.upd (o := .lst []) hl
      refine ⟨_, rfl, _, rfl, by omega, by omega, ?_⟩
      refine for_range (fun j σ H' => ∃ (vs : List V) (ds : List PD) (v6 v7 : Option V), σ = [some (.ref a), some (.ref wa), some (.ref p), some (.int m), some (.int st), some (.ref l), v6, v7, none] ∧ Same H2 H' ∧ H' l = some (.lst vs) ∧ PhL H' vs ds ∧ vs.length = j) ⟨[], [], _, _, rfl, s3.trans u1, upd_same, PhL.nil, rfl⟩ ?_ ?_
      · rintro j σ H4 hj' ⟨vs, ds, v6, v7, rfl, s4, hl4, pl, vl⟩
        have j17 : j < 17 := by omega
        have bn4 := bn.keep s4
        have hp4 : SqT K H4 p [.ref r, .ref q] := SqT.of bn4.hp
        have hr4 : SqT K H4 r rs := SqT.of bn4.hr
        have lt : j % rs.length < rs.length := Nat.mod_lt _ (by omega)
        obtain ⟨v, hv⟩ : ∃ v, rs[j % rs.length]? = some v := ⟨_, List.getElem?_eq_getElem lt⟩
        have av : atI rs (((0 : Int) + j) % (rs.length : Int)) = some v := by
          rw [show ((0 : Int) + j) % (rs.length : Int) = ((j % rs.length : Nat) : Int) by rw [Int.zero_add, Int.natCast_emod]]
          exact atI_nat hv
        obtain ⟨x, t, b, rfl, hx, rmx⟩ := bn4.rm v (List.mem_of_getElem? hv)
        refine ⟨p, _, _, rfl, hp4, rfl, _, rfl, p, _, _, rfl, hp4, rfl, r, rs, rfl, .inr hr4, _, _, rfl, rfl, (by show (0 : Int) < (rs.length : Int); omega), r, rs, _, _, rfl, rfl, hr4, av, ?_⟩
        have e4 := emod_in ((0 : Int) + j) (m := 4) (by decide)
        refine ⟨_, rfl, .inl ⟨rfl, _, SqL.of hl4⟩, _, rfl, _, rfl, _, rfl, _, rfl, _, rfl, _, _, rfl, rfl, (by show (0 : Int) < 4; decide), _, _, rfl, rfl, a, ns, _, rfl, s4.seq hS2, by omega, fun c5 => ?_⟩
        refine ⟨_, rfl, _, rfl, _, _, rfl, rfl, x, wa, ws, t, b, c5, _, rfl, hx, rmx, SqL.of (s4 _ _ hw2), six0, by omega, by omega, fun v5 d H5 s5 ph ok => ?_⟩
        have hl5 := s5 _ _ hl4
        refine ⟨l, vs, _, rfl, rfl, hl5, small1000 (by omega), ?_⟩
        have tk := Tk.lst (o := .lst (vs ++ [v5])) hl5
        exact ⟨vs ++ [v5], ds ++ [d], _, _, rfl, same_own (s4.trans s5) hl2, upd_same, ((pl.keep s5.tk).keep tk).add (ph.keep tk) ok, by rw [List.length_append, vl]; rfl⟩
      · rintro σ H4 ⟨vs, ds, v6, v7, rfl, s4, hl4, pl, vl⟩
        have hS4 := s4.seq hS2
        refine ⟨_, rfl, a, ns, 0, rfl, hS4, by decide, fun c6 => ⟨_, _, rfl, rfl, (by show (0 : Int) < 2; decide), rfl, _, rfl, ?_⟩⟩
        refine if_key (fun σ' H' => ∃ (l' : Addr) (vs' : List V) (ds' : List PD) (v6 v7 : Option V), σ' = [some (.ref a), some (.ref wa), some (.ref p), some (.int m), some (.int st), some (.ref l'), v6, v7, none] ∧ Same H2 H' ∧ H' l' = some (.lst vs') ∧ PhL H' vs' ds' ∧ vs'.length ≤ 20) (fun key _ => ?_) (fun _ => ⟨l, vs, ds, _, _, rfl, s4, hl4, pl, by omega⟩) ?_
        · refine ⟨_, rfl, _, rfl, by omega, by omega, fun D hD => ?_⟩
          refine comp_rel (Ys.rng (lo := 0)) (fun _ _ y H => ∃ d, Ph H y d ∧ OkD d) (fun _ _ _ _ _ ⟨d, h, o⟩ tk => ⟨d, h.keep tk, o⟩) hD (by rw [rngV_len]; omega) (fun i' x H5 R hx sm hR => ?_) (fun ys H5 sm hD5 yl hy => ?_)
          · obtain ⟨hi', rfl⟩ := rngV_get hx
            refine ⟨(Keep.refl _).set rfl, _, rfl, _, rfl, _, rfl, _, rfl, _, _, rfl, rfl, a, ns, _, rfl, sm.seq hS4, by omega, fun c7 => ⟨c7, rfl, (by show 1 ≤ sizeLine; decide), fun g hg => ?_⟩⟩
            have ug := Same.upd (o := .lst [.int (if c7 < 0 then -c7 else c7)]) hg
            refine ⟨wa, g, ws, rfl, SqL.of (ug _ _ (sm _ _ (s4 _ _ hw2))), six0, ⟨_, upd_same, abs_nonneg c7⟩, fun v d H6 sb ph ok => ?_⟩
            refine hR _ _ (fun b o e => sb b o (fun z => by rw [z, hg] at e; cases e) (ug _ _ e)) ⟨d, ph, ok⟩
          · obtain ⟨ds', pl'⟩ := phl_of (H := H5) (vs := ys) fun v hv => by
              obtain ⟨i', hi'⟩ := List.mem_iff_getElem?.mp hv
              obtain ⟨x, hx⟩ : ∃ x, (rngV 0 m.toNat)[i']? = some x := ⟨_, List.getElem?_eq_getElem (by have := (List.getElem?_eq_some_iff.mp hi').1; omega)⟩
              exact hy i' x v hx hi'
            rw [rngV_len] at yl
            exact key _ _ ⟨D, ys, ds', _, _, rfl, s4.trans sm, hD5, pl', by omega⟩
        · rintro _ H5 ⟨l', vs', ds', v6', v7', rfl, s5, hl5, pl5, vl5⟩
          have bn5 := bn.keep s5
          obtain ⟨rbs, rl⟩ := bn5.rm.list
          refine ⟨_, rfl, _, rfl, p, r, q, l', rs, us, vs', ps, rbs, ds', rfl, ⟨bn5, rl, SqL.of hl5, pl5⟩, vl5, fun H6 s6 => ⟨_, rfl, iteF ?_⟩⟩
          exact ⟨_, _, _, _, rfl, s5.trans s6⟩
    · rintro σ H3 ⟨v4, v5, v6, v7, rfl, s3⟩
      have bn3 := bn.keep s3
      refine ⟨_, rfl, wa, ws, rfl, SqL.of (s3 _ _ hw2), by omega, fun z ss pm st hz => ⟨z, _, rfl, .inl ⟨SqL.of upd_same, fun y hy => ?_⟩⟩⟩
      have u1 := Same.upd (o := .lst (ss.map V.str)) hz
      have u2 := Same.upd (o := .tup (ss.map V.str)) hy
      have bn5 := (bn3.keep u1).keep u2
      refine ⟨_, rfl, _, rfl, p, r, q, rs, us, ps, y, ss, rfl, bn5, SqT.of upd_same, _, rfl, _, rfl, p, r, q, rs, us, ps, y, ss, rfl, bn5, SqT.of upd_same, eq_same bn5.pt ss ?_⟩
      refine ⟨_, rfl, ?_⟩
      refine ⟨_, rfl, (by show 0 ≤ sizeLine; decide), fun x hx => ⟨p, r, q, rs, us, ps, x, [], rfl, bn5.keep (Same.upd hx), SqT.of upd_same, ?_⟩⟩
      rw [pairOf_none]
      exact ⟨rfl, k _⟩
end
end K32

namespace K32
open PySem PySem.Spec PyProof.Rows L2 GM GM TM
/-- a def of the top, by its name -/
structure Dn (K : PySem.W.Frag) (x : Str) (st : Stmt) (ps : List Str) : Prop where
  ex : ∃ (f : Addr) (fd : FuncData), PySem.W.nsIn K mainGlobals x = some (some (.ref f)) ∧ Fun K x x st f fd ∧ Binds K fd ps []
theorem Dn.mk' {K : PySem.W.Frag} {x : Str} {st : Stmt} {ps : List Str} {f : Addr} {oc : Value} {od an : Option Addr} {osl : Array (Option Value)} {kV doc pm cdv ct : Value} (a : PySem.W.nsIn K mainGlobals x = some (some (.ref f)))
    (l : K.lookup f = some ⟨oc, od, .func (PySem.W.fnOf x x (defArgs st) (defBody st) (defScope st) .none kV doc pm an cdv ct), osl⟩) (c : PySem.W.codeIn K cdv x = true) (k : PySem.W.keepIn K (.ref f) = true)
    (hb : ∀ (kV doc pm : Value) (an : Option Addr) (cdv ct : Value) (us : List Value), us.length = ps.length → bindArgs (PySem.W.fnOf x x (defArgs st) (defBody st) (defScope st) .none kV doc pm an cdv ct) ⟨us, []⟩ = pure (ps.zip us)) : Dn K x st ps :=
  ⟨f, _, a, fun_mk (st := st) l c k, (fun_mk (st := st) l c k).binds hb⟩
theorem Dn.cal {P : Program} {w : World} {K : PySem.W.Frag} {mg : Str → Option Value} {base h : Heap} {CX : CXT} {k : Nat} {x : Str} {st : Stmt} {ps : List Str} {sp : Sp} (D : Dn K x st ps) (X : K.In h) (G : h.Ns mainGlobals mg)
    (ok : ∀ {f : Addr} {fd : FuncData}, Fun K x x st f fd → FnOk P w K mg base CX k f fd ps sp) : Cal P w K mg base CX k x ps sp := by
  obtain ⟨f, fd, a, F, b⟩ := D.ex
  exact ⟨f, fd, PySem.W.mg_of X G a, F.kp, b, ok F⟩

structure NouK (K : PySem.W.Frag) (aN : Addr) : Prop where
  m : PySem.W.nsIn K mainGlobals "NOUGHT" = some (some (.ref aN))
  s : ∀ H : Hp, SqT K H aN [.int 0, .int 1]
theorem NouK.mk' {K : PySem.W.Frag} {aN : Addr} {od : Option Addr} {t0 t1 : Tok} {n : Nat} {sl : Array (Option Value)} (a : PySem.W.nsIn K mainGlobals "NOUGHT" = some (some (.ref aN)))
    (l : K.lookup aN = some ⟨.type "tuple", od, .seq #[.int 0 t0, .int 1 t1] n, sl⟩) : ∃ aN : Addr, NouK K aN :=
  ⟨aN, a, fun _ => .inr ⟨_, _, _, l, rfl, rfl, (by show 2 ≤ sizeLine; decide), .cons ⟨_, rfl⟩ (.cons ⟨_, rfl⟩ .nil)⟩⟩
structure AllD (K : PySem.W.Frag) : Prop where
  dGcd : Dn K "common_divisor" sGcd ["one", "other"]
  dLow : Dn K "lowest_terms" sLow ["top", "bottom"]
  dPlus : Dn K "plus" sPlus ["one", "other"]
  dLess : Dn K "less" sLess ["one", "other"]
  dWholeM : Dn K "whole" sWholeM ["one"]
  dFit : Dn K "fit" sFit ["bench", "phials"]
  dPairIn : Dn K "pair_in" sPairIn ["bench", "names"]
  dCell : Dn K "_law_cell_at" sCell ["_law_script", "_law_k"]
  dMixed : Dn K "_law_mixed" sMixed ["_law_cell", "_law_k"]
  dLowest : Dn K "_law_lowest" sLowest ["_law_top", "_law_bottom"]
  dAdd : Dn K "_law_add" sAdd ["_law_one", "_law_other"]
  dTake : Dn K "_law_take" sTake ["_law_one", "_law_other"]
  dBy : Dn K "_law_by" sBy ["_law_one", "_law_other"]
  dUnder : Dn K "_law_under" sUnder ["_law_one", "_law_other"]
  dDigit : Dn K "_law_digit" sDigit ["_law_left", "_law_many"]
  dNames : Dn K "_law_names" sNames ["_law_left"]
  dWares : Dn K "_law_wares" sWares ["_law_cell"]
  dMuch : Dn K "_law_much" sMuch ["_law_number"]
  dApart : Dn K "_law_apart" sApart ["_law_wares_here", "_law_cell", "_law_often"]
  dFree : Dn K "_law_free_bench" sFree ["_law_script", "_law_wares_here"]
  dBench : Dn K "_law_bench" sBench ["_law_script", "_law_wares_here"]
  dPhial : Dn K "_law_phial" sPhial ["_law_room", "_law_wares_here", "_law_cell", "_law_k"]
  dFreePh : Dn K "_law_free_phial" sFreePh ["_law_wares_here", "_law_left"]
  dPairL : Dn K "_law_pair" sPairL ["_law_bench_here", "_law_names_here"]
  dIsFit : Dn K "_law_is_fit" sIsFit ["_law_bench_here", "_law_phials"]
  dFitsSo : Dn K "_law_fits_so" sFitsSo ["_law_bench_here", "_law_phials"]
  z0 : PySem.W.nsIn K mainGlobals "isinstance" = some none
  z1 : PySem.W.nsIn K mainGlobals "bool" = some none
  z2 : PySem.W.nsIn K mainGlobals "tuple" = some none
  z3 : PySem.W.nsIn K mainGlobals "len" = some none
  z4 : PySem.W.nsIn K mainGlobals "range" = some none
  z5 : PySem.W.nsIn K mainGlobals "min" = some none
  z6 : PySem.W.nsIn K mainGlobals "max" = some none
  z7 : PySem.W.nsIn K mainGlobals "abs" = some none
  z8 : PySem.W.nsIn K mainGlobals "list" = some none
  z9 : PySem.W.nsIn K mainGlobals "sorted" = some none
  z10 : PySem.W.nsIn K mainGlobals "zip" = some none
  z11 : PySem.W.nsIn K mainGlobals "set" = some none
  nou : ∃ aN : Addr, NouK K aN
theorem AllD.txt {K : PySem.W.Frag} {mg : Str → Option Value} {h : Heap} (A : AllD K) (X : K.In h) (G : h.Ns mainGlobals mg) : Txt mg := ⟨PySem.W.mg_none_of X G A.z0, PySem.W.mg_none_of X G A.z1, PySem.W.mg_none_of X G A.z2, PySem.W.mg_none_of X G A.z3, PySem.W.mg_none_of X G A.z4, PySem.W.mg_none_of X G A.z5, PySem.W.mg_none_of X G A.z6, PySem.W.mg_none_of X G A.z7, PySem.W.mg_none_of X G A.z8, PySem.W.mg_none_of X G A.z9, PySem.W.mg_none_of X G A.z10, PySem.W.mg_none_of X G A.z11⟩
theorem law_ok {P : Program} {w : World} {K : PySem.W.Frag} {mg : Str → Option Value} {base h : Heap} {f : Addr} {fd : FuncData} (X : K.In h) (G : h.Ns mainGlobals mg) (A : AllD K) (F : Fun K "law" "law" sLaw f fd) : FnOk P w K mg base CX0 7 f fd ["_law_script"] (spLaw K) := by
  have T : Txt mg := A.txt X G
  obtain ⟨aN, NK⟩ := A.nou
  have mN := PySem.W.mg_of X G NK.m
  have cG : Cal P w K mg base CX0 1 "common_divisor" ["one", "other"] spGcd := A.dGcd.cal X G ok_gcd
  have cLow : Cal P w K mg base CX0 2 "lowest_terms" ["top", "bottom"] spLow := A.dLow.cal X G fun F => ok_low F cG
  have cPl : Cal P w K mg base CX0 3 "plus" ["one", "other"] (spPlus K) := A.dPlus.cal X G fun F => ok_plus F mN NK.s cLow
  have cLs : Cal P w K mg base CX0 1 "less" ["one", "other"] (spLess K) := A.dLess.cal X G ok_less
  have cWm : Cal P w K mg base CX0 4 "whole" ["one"] (spWholeM K) := A.dWholeM.cal X G fun F => ok_wholem F mN NK.s cPl
  have cPi : Cal P w K mg base CX0 1 "pair_in" ["bench", "names"] (spPairIn K) := A.dPairIn.cal X G fun F => ok_pairin F
  have cFi : Cal P w K mg base CX0 5 "fit" ["bench", "phials"] (spFit K) := A.dFit.cal X G fun F => ok_fit F T (cLs.mono (by decide)) cWm (cPi.mono (by decide))
  have cC : Cal P w K mg base CX0 1 "_law_cell_at" ["_law_script", "_law_k"] (spCell K) := A.dCell.cal X G fun F => ok_cell F T
  have cX : Cal P w K mg base CX0 1 "_law_mixed" ["_law_cell", "_law_k"] spMixed := A.dMixed.cal X G ok_mixed
  have cLo : Cal P w K mg base CX0 1 "_law_lowest" ["_law_top", "_law_bottom"] spLowest := A.dLowest.cal X G ok_lowest
  have cAd : Cal P w K mg base CX0 2 "_law_add" ["_law_one", "_law_other"] (spAdd K) := A.dAdd.cal X G fun F => ok_add F cLo
  have cTa : Cal P w K mg base CX0 2 "_law_take" ["_law_one", "_law_other"] (spTake K) := A.dTake.cal X G fun F => ok_take F cLo
  have cBy : Cal P w K mg base CX0 2 "_law_by" ["_law_one", "_law_other"] (spBy K) := A.dBy.cal X G fun F => ok_by F cLo
  have cUn : Cal P w K mg base CX0 1 "_law_under" ["_law_one", "_law_other"] (spLess K) := A.dUnder.cal X G ok_under
  have cDi : Cal P w K mg base CX0 1 "_law_digit" ["_law_left", "_law_many"] spDigit := A.dDigit.cal X G ok_digit
  have cNa : Cal P w K mg base CX0 2 "_law_names" ["_law_left"] spNames := A.dNames.cal X G fun F => ok_names F T cDi
  have cWa : Cal P w K mg base CX0 3 "_law_wares" ["_law_cell"] spWares := A.dWares.cal X G fun F => ok_wares F T cNa (cX.mono (by decide))
  have cMu : Cal P w K mg base CX0 2 "_law_much" ["_law_number"] spMuch := A.dMuch.cal X G fun F => ok_much F cLo
  have cAp : Cal P w K mg base CX0 2 "_law_apart" ["_law_wares_here", "_law_cell", "_law_often"] (spApart K) := A.dApart.cal X G fun F => ok_apart F T cX
  have cFr : Cal P w K mg base CX0 2 "_law_free_bench" ["_law_script", "_law_wares_here"] (spBench K) := A.dFree.cal X G fun F => ok_free F T cC cDi cLo
  have cBe : Cal P w K mg base CX0 3 "_law_bench" ["_law_script", "_law_wares_here"] (spBench K) := A.dBench.cal X G fun F => ok_bench F T (cC.mono (by decide)) cFr (cX.mono (by decide)) cMu cAp
  have cPh : Cal P w K mg base CX0 3 "_law_phial" ["_law_room", "_law_wares_here", "_law_cell", "_law_k"] (spPhial K) := A.dPhial.cal X G fun F => ok_phial F T (cX.mono (by decide)) cBy cTa
  have cFp : Cal P w K mg base CX0 2 "_law_free_phial" ["_law_wares_here", "_law_left"] (spFreePh K) := A.dFreePh.cal X G fun F => ok_freeph F T cDi cLo
  have cPl' : Cal P w K mg base CX0 1 "_law_pair" ["_law_bench_here", "_law_names_here"] (spPairIn K) := A.dPairL.cal X G fun F => ok_pairl F
  have cIf : Cal P w K mg base CX0 3 "_law_is_fit" ["_law_bench_here", "_law_phials"] (spFit K) := A.dIsFit.cal X G fun F => ok_isfit F T cAd (cUn.mono (by decide)) (cPl'.mono (by decide))
  have cFs : Cal P w K mg base CX0 6 "_law_fits_so" ["_law_bench_here", "_law_phials"] (spFitsSo K) := A.dFitsSo.cal X G fun F => ok_fitsso F T cFi (cIf.mono (by decide)) (cPi.mono (by decide)) (cPl'.mono (by decide))
  exact ok_law F T (cC.mono (by decide)) (cWa.mono (by decide)) (cBe.mono (by decide)) (cPh.mono (by decide)) (cFp.mono (by decide)) cFs (cPi.mono (by decide)) (cPl'.mono (by decide))
theorem all_mk {l : PySem.W.OpenLaw} {w : World} {K : PySem.W.Frag} {h : Heap} {mg : Str → Option Value} {fa f4 : Addr} (X : K.In h) (G : h.Ns mainGlobals mg) (hfa : mg "law" = some (.ref fa)) (A : AllD K)
    {od4 an4 : Option Addr} {sl4 : Array (Option Value)} {oc4 kV4 dc4 pm4 cd4 ct4 : Value}
    (a4 : PySem.W.nsIn K mainGlobals "law" = some (some (.ref f4))) (l4 : K.lookup f4 = some ⟨oc4, od4, .func (PySem.W.fnOf "law" "law" (defArgs sLaw) (defBody sLaw) (defScope sLaw) .none kV4 dc4 pm4 an4 cd4 ct4), sl4⟩) (c4 : PySem.W.codeIn K cd4 "law" = true) (k4 : PySem.W.keepIn K (.ref f4) = true) :
    ∃ fd : FuncData, (∀ (s : Shared) (v : Value), BindsTo s fd ⟨[v], []⟩ [("_law_script", v)]) ∧ ∀ base : Heap, K.In base → base.Ns mainGlobals mg → FnOk l.prog w K mg base CX0 7 fa fd ["_law_script"] (spLaw K) := by
  have e := hfa.symm.trans (PySem.W.mg_of X G a4)
  cases e
  exact ⟨PySem.W.fnOf "law" "law" (defArgs sLaw) (defBody sLaw) (defScope sLaw) .none kV4 dc4 pm4 an4 cd4 ct4, fun s v => .of_eq rfl, fun base _ _ => law_ok X G A (fun_mk (st := sLaw) l4 c4 k4)⟩
theorem walk {l : PySem.W.OpenLaw} {q : Program} {loose : List Str} {XP : (Str → Option Value) → Heap → Prop} {YP : World → Heap → Prop} {d : DefRec} {K : Params → PySem.W.Frag} (hn : l.most = some 63) (hdf : d.params.defaults = [])
    (hY : ∀ (w : World) (h : Heap), YP w h → (K w.params).In h)
    (F : ∀ (w : World) (mg : Str → Option Value) (fa : Addr) (h : Heap), (K w.params).In h → h.Ns mainGlobals mg → mg d.name = some (.ref fa) →
      ∃ fd : FuncData, (∀ (s : Shared) (u : Value), BindsTo s fd ⟨[u], []⟩ [("_law_script", u)]) ∧ ∀ base : Heap, (K w.params).In base → base.Ns mainGlobals mg → FnOk l.prog w (K w.params) mg base CX0 7 fa fd ["_law_script"] (spLaw (K w.params))) :
    PySem.W.WalkO q loose XP YP l.row.toRowW d [] (fun f vs => PySem.call f vs) :=
  L2.walk_of (n := 63) (k := 7) (x := "_law_script") (CX := fun _ => CX0) (sp := fun w => spLaw (K w.params)) hn (by decide) hdf ⟨rfl, by decide, by decide⟩ hY F (fun _ _ a ns hl _ hS => ⟨a, ns, rfl, hS, hl, fun _ => rfl⟩) fun _ _ _ _ _ z => z
end K32
open PySem PySem.W PyProof.Rows
set_option maxRecDepth 100000 in
set_option maxHeartbeats 0 in
theorem PySem.Challenge.cw_phialhouse_k32_phials_that_fit_holds : PySem.Challenge.rw_phialhouse_k32_phials_that_fit.Holds := by
  w_on; o_law; k_head; (case hw => w_witness2)
  k_fill
  refine K32.walk (l := PySem.Challenge.rw_phialhouse_k32_phials_that_fit) rfl rfl (fun w h Y => PySem.W.kIn_of Y) ?F
  case F =>
    intro w mg fa h KX G hmg
    have dGcd : K32.Dn (L2.KOf KX) "common_divisor" K32.sGcd ["one", "other"] := by
      dsimp only [L2.KOf]
      refine' K32.Dn.mk' ?a ?l ?c ?k ?b
      (case a => k_is); (case l => k_is); (case c => k_is); (case k => k_is)
      (case b => exact fun _ _ _ _ _ _ us hl => match us, hl with | [_, _], _ => rfl)
    have dLow : K32.Dn (L2.KOf KX) "lowest_terms" K32.sLow ["top", "bottom"] := by
      dsimp only [L2.KOf]
      refine' K32.Dn.mk' ?a ?l ?c ?k ?b
      (case a => k_is); (case l => k_is); (case c => k_is); (case k => k_is)
      (case b => exact fun _ _ _ _ _ _ us hl => match us, hl with | [_, _], _ => rfl)
    have dPlus : K32.Dn (L2.KOf KX) "plus" K32.sPlus ["one", "other"] := by
      dsimp only [L2.KOf]
      refine' K32.Dn.mk' ?a ?l ?c ?k ?b
      (case a => k_is); (case l => k_is); (case c => k_is); (case k => k_is)
      (case b => exact fun _ _ _ _ _ _ us hl => match us, hl with | [_, _], _ => rfl)
    have dLess : K32.Dn (L2.KOf KX) "less" K32.sLess ["one", "other"] := by
      dsimp only [L2.KOf]
      refine' K32.Dn.mk' ?a ?l ?c ?k ?b
      (case a => k_is); (case l => k_is); (case c => k_is); (case k => k_is)
      (case b => exact fun _ _ _ _ _ _ us hl => match us, hl with | [_, _], _ => rfl)
    have dWholeM : K32.Dn (L2.KOf KX) "whole" K32.sWholeM ["one"] := by
      dsimp only [L2.KOf]
      refine' K32.Dn.mk' ?a ?l ?c ?k ?b
      (case a => k_is); (case l => k_is); (case c => k_is); (case k => k_is)
      (case b => exact fun _ _ _ _ _ _ us hl => match us, hl with | [_], _ => rfl)
    have dFit : K32.Dn (L2.KOf KX) "fit" K32.sFit ["bench", "phials"] := by
      dsimp only [L2.KOf]
      refine' K32.Dn.mk' ?a ?l ?c ?k ?b
      (case a => k_is); (case l => k_is); (case c => k_is); (case k => k_is)
      (case b => exact fun _ _ _ _ _ _ us hl => match us, hl with | [_, _], _ => rfl)
    have dPairIn : K32.Dn (L2.KOf KX) "pair_in" K32.sPairIn ["bench", "names"] := by
      dsimp only [L2.KOf]
      refine' K32.Dn.mk' ?a ?l ?c ?k ?b
      (case a => k_is); (case l => k_is); (case c => k_is); (case k => k_is)
      (case b => exact fun _ _ _ _ _ _ us hl => match us, hl with | [_, _], _ => rfl)
    have dCell : K32.Dn (L2.KOf KX) "_law_cell_at" K32.sCell ["_law_script", "_law_k"] := by
      dsimp only [L2.KOf]
      refine' K32.Dn.mk' ?a ?l ?c ?k ?b
      (case a => k_is); (case l => k_is); (case c => k_is); (case k => k_is)
      (case b => exact fun _ _ _ _ _ _ us hl => match us, hl with | [_, _], _ => rfl)
    have dMixed : K32.Dn (L2.KOf KX) "_law_mixed" K32.sMixed ["_law_cell", "_law_k"] := by
      dsimp only [L2.KOf]
      refine' K32.Dn.mk' ?a ?l ?c ?k ?b
      (case a => k_is); (case l => k_is); (case c => k_is); (case k => k_is)
      (case b => exact fun _ _ _ _ _ _ us hl => match us, hl with | [_, _], _ => rfl)
    have dLowest : K32.Dn (L2.KOf KX) "_law_lowest" K32.sLowest ["_law_top", "_law_bottom"] := by
      dsimp only [L2.KOf]
      refine' K32.Dn.mk' ?a ?l ?c ?k ?b
      (case a => k_is); (case l => k_is); (case c => k_is); (case k => k_is)
      (case b => exact fun _ _ _ _ _ _ us hl => match us, hl with | [_, _], _ => rfl)
    have dAdd : K32.Dn (L2.KOf KX) "_law_add" K32.sAdd ["_law_one", "_law_other"] := by
      dsimp only [L2.KOf]
      refine' K32.Dn.mk' ?a ?l ?c ?k ?b
      (case a => k_is); (case l => k_is); (case c => k_is); (case k => k_is)
      (case b => exact fun _ _ _ _ _ _ us hl => match us, hl with | [_, _], _ => rfl)
    have dTake : K32.Dn (L2.KOf KX) "_law_take" K32.sTake ["_law_one", "_law_other"] := by
      dsimp only [L2.KOf]
      refine' K32.Dn.mk' ?a ?l ?c ?k ?b
      (case a => k_is); (case l => k_is); (case c => k_is); (case k => k_is)
      (case b => exact fun _ _ _ _ _ _ us hl => match us, hl with | [_, _], _ => rfl)
    have dBy : K32.Dn (L2.KOf KX) "_law_by" K32.sBy ["_law_one", "_law_other"] := by
      dsimp only [L2.KOf]
      refine' K32.Dn.mk' ?a ?l ?c ?k ?b
      (case a => k_is); (case l => k_is); (case c => k_is); (case k => k_is)
      (case b => exact fun _ _ _ _ _ _ us hl => match us, hl with | [_, _], _ => rfl)
    have dUnder : K32.Dn (L2.KOf KX) "_law_under" K32.sUnder ["_law_one", "_law_other"] := by
      dsimp only [L2.KOf]
      refine' K32.Dn.mk' ?a ?l ?c ?k ?b
      (case a => k_is); (case l => k_is); (case c => k_is); (case k => k_is)
      (case b => exact fun _ _ _ _ _ _ us hl => match us, hl with | [_, _], _ => rfl)
    have dDigit : K32.Dn (L2.KOf KX) "_law_digit" K32.sDigit ["_law_left", "_law_many"] := by
      dsimp only [L2.KOf]
      refine' K32.Dn.mk' ?a ?l ?c ?k ?b
      (case a => k_is); (case l => k_is); (case c => k_is); (case k => k_is)
      (case b => exact fun _ _ _ _ _ _ us hl => match us, hl with | [_, _], _ => rfl)
    have dNames : K32.Dn (L2.KOf KX) "_law_names" K32.sNames ["_law_left"] := by
      dsimp only [L2.KOf]
      refine' K32.Dn.mk' ?a ?l ?c ?k ?b
      (case a => k_is); (case l => k_is); (case c => k_is); (case k => k_is)
      (case b => exact fun _ _ _ _ _ _ us hl => match us, hl with | [_], _ => rfl)
    have dWares : K32.Dn (L2.KOf KX) "_law_wares" K32.sWares ["_law_cell"] := by
      dsimp only [L2.KOf]
      refine' K32.Dn.mk' ?a ?l ?c ?k ?b
      (case a => k_is); (case l => k_is); (case c => k_is); (case k => k_is)
      (case b => exact fun _ _ _ _ _ _ us hl => match us, hl with | [_], _ => rfl)
    have dMuch : K32.Dn (L2.KOf KX) "_law_much" K32.sMuch ["_law_number"] := by
      dsimp only [L2.KOf]
      refine' K32.Dn.mk' ?a ?l ?c ?k ?b
      (case a => k_is); (case l => k_is); (case c => k_is); (case k => k_is)
      (case b => exact fun _ _ _ _ _ _ us hl => match us, hl with | [_], _ => rfl)
    have dApart : K32.Dn (L2.KOf KX) "_law_apart" K32.sApart ["_law_wares_here", "_law_cell", "_law_often"] := by
      dsimp only [L2.KOf]
      refine' K32.Dn.mk' ?a ?l ?c ?k ?b
      (case a => k_is); (case l => k_is); (case c => k_is); (case k => k_is)
      (case b => exact fun _ _ _ _ _ _ us hl => match us, hl with | [_, _, _], _ => rfl)
    have dFree : K32.Dn (L2.KOf KX) "_law_free_bench" K32.sFree ["_law_script", "_law_wares_here"] := by
      dsimp only [L2.KOf]
      refine' K32.Dn.mk' ?a ?l ?c ?k ?b
      (case a => k_is); (case l => k_is); (case c => k_is); (case k => k_is)
      (case b => exact fun _ _ _ _ _ _ us hl => match us, hl with | [_, _], _ => rfl)
    have dBench : K32.Dn (L2.KOf KX) "_law_bench" K32.sBench ["_law_script", "_law_wares_here"] := by
      dsimp only [L2.KOf]
      refine' K32.Dn.mk' ?a ?l ?c ?k ?b
      (case a => k_is); (case l => k_is); (case c => k_is); (case k => k_is)
      (case b => exact fun _ _ _ _ _ _ us hl => match us, hl with | [_, _], _ => rfl)
    have dPhial : K32.Dn (L2.KOf KX) "_law_phial" K32.sPhial ["_law_room", "_law_wares_here", "_law_cell", "_law_k"] := by
      dsimp only [L2.KOf]
      refine' K32.Dn.mk' ?a ?l ?c ?k ?b
      (case a => k_is); (case l => k_is); (case c => k_is); (case k => k_is)
      (case b => exact fun _ _ _ _ _ _ us hl => match us, hl with | [_, _, _, _], _ => rfl)
    have dFreePh : K32.Dn (L2.KOf KX) "_law_free_phial" K32.sFreePh ["_law_wares_here", "_law_left"] := by
      dsimp only [L2.KOf]
      refine' K32.Dn.mk' ?a ?l ?c ?k ?b
      (case a => k_is); (case l => k_is); (case c => k_is); (case k => k_is)
      (case b => exact fun _ _ _ _ _ _ us hl => match us, hl with | [_, _], _ => rfl)
    have dPairL : K32.Dn (L2.KOf KX) "_law_pair" K32.sPairL ["_law_bench_here", "_law_names_here"] := by
      dsimp only [L2.KOf]
      refine' K32.Dn.mk' ?a ?l ?c ?k ?b
      (case a => k_is); (case l => k_is); (case c => k_is); (case k => k_is)
      (case b => exact fun _ _ _ _ _ _ us hl => match us, hl with | [_, _], _ => rfl)
    have dIsFit : K32.Dn (L2.KOf KX) "_law_is_fit" K32.sIsFit ["_law_bench_here", "_law_phials"] := by
      dsimp only [L2.KOf]
      refine' K32.Dn.mk' ?a ?l ?c ?k ?b
      (case a => k_is); (case l => k_is); (case c => k_is); (case k => k_is)
      (case b => exact fun _ _ _ _ _ _ us hl => match us, hl with | [_, _], _ => rfl)
    have dFitsSo : K32.Dn (L2.KOf KX) "_law_fits_so" K32.sFitsSo ["_law_bench_here", "_law_phials"] := by
      dsimp only [L2.KOf]
      refine' K32.Dn.mk' ?a ?l ?c ?k ?b
      (case a => k_is); (case l => k_is); (case c => k_is); (case k => k_is)
      (case b => exact fun _ _ _ _ _ _ us hl => match us, hl with | [_, _], _ => rfl)
    have z0 : PySem.W.nsIn (L2.KOf KX) mainGlobals "isinstance" = some none := by
      dsimp only [L2.KOf]
      k_is
    have z1 : PySem.W.nsIn (L2.KOf KX) mainGlobals "bool" = some none := by
      dsimp only [L2.KOf]
      k_is
    have z2 : PySem.W.nsIn (L2.KOf KX) mainGlobals "tuple" = some none := by
      dsimp only [L2.KOf]
      k_is
    have z3 : PySem.W.nsIn (L2.KOf KX) mainGlobals "len" = some none := by
      dsimp only [L2.KOf]
      k_is
    have z4 : PySem.W.nsIn (L2.KOf KX) mainGlobals "range" = some none := by
      dsimp only [L2.KOf]
      k_is
    have z5 : PySem.W.nsIn (L2.KOf KX) mainGlobals "min" = some none := by
      dsimp only [L2.KOf]
      k_is
    have z6 : PySem.W.nsIn (L2.KOf KX) mainGlobals "max" = some none := by
      dsimp only [L2.KOf]
      k_is
    have z7 : PySem.W.nsIn (L2.KOf KX) mainGlobals "abs" = some none := by
      dsimp only [L2.KOf]
      k_is
    have z8 : PySem.W.nsIn (L2.KOf KX) mainGlobals "list" = some none := by
      dsimp only [L2.KOf]
      k_is
    have z9 : PySem.W.nsIn (L2.KOf KX) mainGlobals "sorted" = some none := by
      dsimp only [L2.KOf]
      k_is
    have z10 : PySem.W.nsIn (L2.KOf KX) mainGlobals "zip" = some none := by
      dsimp only [L2.KOf]
      k_is
    have z11 : PySem.W.nsIn (L2.KOf KX) mainGlobals "set" = some none := by
      dsimp only [L2.KOf]
      k_is
    have nou : ∃ aN : Addr, K32.NouK (L2.KOf KX) aN := by
      dsimp only [L2.KOf]
      refine' K32.NouK.mk' ?a ?l
      (case a => k_is); (case l => k_is)
    refine' K32.all_mk KX G hmg ⟨dGcd, dLow, dPlus, dLess, dWholeM, dFit, dPairIn, dCell, dMixed, dLowest, dAdd, dTake, dBy, dUnder, dDigit, dNames, dWares, dMuch, dApart, dFree, dBench, dPhial, dFreePh, dPairL, dIsFit, dFitsSo, z0, z1, z2, z3, z4, z5, z6, z7, z8, z9, z10, z11, nou⟩ ?a4 ?l4 ?c4 ?k4
    (case a4 => k_is); (case l4 => k_is); (case c4 => k_is); (case k4 => k_is)

