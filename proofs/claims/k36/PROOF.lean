import PyProof.Rows.All
import Wide.All
import OpenK.AllK
import Wide.FinOn
import Lean
import PyProof.EqAt
import PyProof.EqKinds
import PyProof.TupleCall
import PySem.Challenge.RW_phialhouse_k36_rows_that_are_none
set_option Elab.async false
set_option linter.all false
set_option maxRecDepth 100000
set_option maxHeartbeats 4000000
/-! THE HAND LAYER, for ints, bools, texts, own classes, LISTS and tuples (index, slices, in, append, pop ..), calls, loops. Paste it whole ahead of your own text; what your proof does not reach may be deleted. -/
namespace L2
open PySem PySem.Spec PyProof.Rows

/-- a key: an int or a str -/
abbrev Key := Sum Int Str
def keyIs : Key → Value → Bool
  | .inl k, v => Value.isInt k v
  | .inr x, v => Value.isStrOf x v
def keyH (w : World) : Key → Int
  | .inl k => hashInt k
  | .inr x => hashStr w x
theorem keyIs_shape : ∀ {k : Key} {v : Value}, keyIs k v = true → (∃ i t, k = Sum.inl i ∧ v = Value.int i t) ∨ (∃ x t, k = Sum.inr x ∧ v = Value.str x t)
  | .inl i, v, h => by
    obtain ⟨t, e⟩ := Value.isInt_shape (k := i) (v := v) h
    exact .inl ⟨i, t, rfl, e⟩
  | .inr x, v, h => by
    obtain ⟨t, e⟩ := Value.isStrOf_shape (x := x) (v := v) h
    exact .inr ⟨x, t, rfl, e⟩
theorem key_ll (a b : Int) : decide ((Sum.inl a : Key) = Sum.inl b) = (a == b) := by
  by_cases e : a = b
  · subst e; simp
  · have h : ¬ (Sum.inl a : Key) = Sum.inl b := fun q => e (Sum.inl.inj q)
    rw [decide_eq_false h]
    exact (beq_eq_false_iff_ne.mpr e).symm
theorem key_rr (a b : Str) : decide ((Sum.inr a : Key) = Sum.inr b) = decide (a = b) := by
  by_cases e : a = b
  · subst e; simp
  · have h : ¬ (Sum.inr a : Key) = Sum.inr b := fun q => e (Sum.inr.inj q)
    rw [decide_eq_false h, decide_eq_false e]
theorem key_lr (a : Int) (b : Str) : decide ((Sum.inl a : Key) = Sum.inr b) = false := decide_eq_false (fun q => nomatch q)
theorem key_rl (a : Str) (b : Int) : decide ((Sum.inr a : Key) = Sum.inl b) = false := decide_eq_false (fun q => nomatch q)

def mixKind (prog : Program) (w : World) : PySem.KeyKind prog w Key where
  is := keyIs
  hash := keyH w
  inj := fun v a b ha hb => by
    rcases keyIs_shape ha with ⟨i, t, rfl, rfl⟩ | ⟨x, t, rfl, rfl⟩
    · rcases keyIs_shape hb with ⟨j, u, rfl, e⟩ | ⟨y, u, rfl, e⟩
      · injection e with e1 _; rw [e1]
      · exact nomatch e
    · rcases keyIs_shape hb with ⟨j, u, rfl, e⟩ | ⟨y, u, rfl, e⟩
      · exact nomatch e
      · injection e with e1 _; rw [e1]
  byValue := fun k v h => by
    rcases keyIs_shape h with ⟨i, t, rfl, rfl⟩ | ⟨x, t, rfl, rfl⟩ <;> rfl
  pyHash := fun hv h => by
    rcases keyIs_shape hv with ⟨i, t, rfl, rfl⟩ | ⟨x, t, rfl, rfl⟩
    · exact wpAny_pyHash_int h
    · exact wpAny_pyHash_str h
  eqBool := fun hu hv h => by
    rcases keyIs_shape hu with ⟨i, t, rfl, rfl⟩ | ⟨x, t, rfl, rfl⟩
    · rcases keyIs_shape hv with ⟨j, u, rfl, rfl⟩ | ⟨y, u, rfl, rfl⟩
      · rw [key_ll] at h; exact wpAny_eqBool_int h
      · rw [key_lr] at h; exact SeqAt.EqAt.int_str i t y u _ _ _ _ h
    · rcases keyIs_shape hv with ⟨j, u, rfl, rfl⟩ | ⟨y, u, rfl, rfl⟩
      · rw [key_rl] at h; exact SeqAt.EqAt.str_int x t j u _ _ _ _ h
      · rw [key_rr] at h; exact wpAny_eqBool_str h
  «strs» := fun k x t v h => by
    rcases keyIs_shape h with ⟨i, u, rfl, e⟩ | ⟨y, u, rfl, e⟩
    · exact nomatch e
    · injection e with e1 _
      subst e1
      cases v <;> rfl

end L2

namespace L2
open PySem PySem.Spec PyProof.Rows

/-- a value, without the heap -/
inductive V where
  | non | bl (b : Bool) | int (i : Int) | str (x : Str) | byt (b : Array UInt8) | flt (b : UInt64) | ref (a : Addr) | ty (n : String)
  deriving DecidableEq

def RelV : V → Value → Prop
  | .non, u => u = Value.none
  | .bl b, u => u = Value.bool b
  | .int i, u => ∃ t, u = Value.int i t
  | .str x, u => ∃ t, u = Value.str x t
  | .byt b, u => ∃ t, u = Value.bytes b t
  | .flt b, u => ∃ t, u = Value.float b t
  | .ref a, u => u = Value.ref a
  | .ty n, u => u = Value.type n

abbrev Vals : List V → List Value → Prop := Paired RelV
theorem Vals.length {xs : List V} {us : List Value} (r : Vals xs us) : xs.length = us.length := Paired.length r
theorem Vals.get : ∀ {xs : List V} {us : List Value} {i : Nat} {x : V}, Vals xs us → xs[i]? = some x → ∃ u, us[i]? = some u ∧ RelV x u
  | _, _, _, _, .nil, e => by simp at e
  | _, _, 0, _, .cons r _, e => by simp at e; subst e; exact ⟨_, rfl, r⟩
  | _, _, i + 1, x, .cons _ t, e => by
    obtain ⟨u, h1, h2⟩ := Vals.get (i := i) (x := x) t (by simpa using e)
    exact ⟨u, by simpa using h1, h2⟩
theorem Vals.set {x : V} {u : Value} (r : RelV x u) : ∀ {xs : List V} {us : List Value} (i : Nat), Vals xs us → Vals (xs.set i x) (us.set i u)
  | _, _, _, .nil => .nil
  | _, _, 0, .cons _ t => .cons r t
  | _, _, i + 1, .cons q t => .cons q (Vals.set r i t)
theorem Vals.append : ∀ {xs ys : List V} {us ws : List Value}, Vals xs us → Vals ys ws → Vals (xs ++ ys) (us ++ ws)
  | _, _, _, _, .nil, s => s
  | _, _, _, _, .cons r t, s => .cons r (Vals.append t s)
theorem Vals.take : ∀ {xs : List V} {us : List Value} (n : Nat), Vals xs us → Vals (xs.take n) (us.take n)
  | _, _, 0, _ => .nil
  | _, _, _ + 1, .nil => .nil
  | _, _, n + 1, .cons r t => .cons r (Vals.take n t)
theorem Vals.drop : ∀ {xs : List V} {us : List Value} (n : Nat), Vals xs us → Vals (xs.drop n) (us.drop n)
  | _, _, 0, r => r
  | _, _, _ + 1, .nil => .nil
  | _, _, n + 1, .cons _ t => Vals.drop n t
def RelO : Option V → Option Value → Prop
  | some v, some u => RelV v u
  | none, none => True
  | _, _ => False
def KV {κ : Type} : List (κ × V) → List (κ × Value) → Prop := Paired fun (p : κ × V) (q : κ × Value) => p.1 = q.1 ∧ RelV p.2 q.2

/-- a key of a dict (00_mix): an int or a text -/
def kV : Key → V
  | .inl i => .int i
  | .inr x => .str x

/-- what stands at a tracked address -/
inductive HO where
  /-- a list -/
  | lst (xs : List V)
  /-- a tuple (never changes) -/
  | tup (xs : List V)
  /-- a dict whose keys are ints and texts; one whose keys are tuples of ints and texts (the empty one is both) -/
  | dK (kvs : List (Key × V)) | dT (kvs : List (List Key × V))
  /-- a set of ints: its members, its size -/
  | set (S : Int → Bool) (n : Nat)
  /-- an instance of the class at C, its dict at dx, its attributes -/
  | ins (C dx : Addr) (fs : List (Str × V))
  /-- the dict of the instance at x -/
  | own (x : Addr)
  /-- the dict of an exception -/
  | xd (fs : List (Str × V))
  /-- a bound method, f of x -/
  | met (f x : Addr)
  /-- a range object lo, lo + 1, .. below hi -/
  | rng (lo hi : Int)
  /-- a thing that is known to the object (the script; a dict while a loop walks it): read, never written while it is so -/
  | frz (o : Obj) (u : HO)
  /-- a code object's table -/
  | tbl (ps : Array Value)
  /-- any other thing, by what is true of its one object (a def of one's own: SetO a S n := HO.ext fun h => ..) -/
  | ext (φ : Heap → Prop)

abbrev Hp := Addr → Option HO
def upd (H : Hp) (a : Addr) (o : HO) : Hp := fun b => if b = a then some o else H b
theorem upd_same {H : Hp} {a : Addr} {o : HO} : upd H a o a = some o := by unfold upd; rw [if_pos rfl]
theorem upd_ne {H : Hp} {a b : Addr} {o : HO} (h : b ≠ a) : upd H a o b = H b := by unfold upd; rw [if_neg h]
theorem ne_of_none {H : Hp} {a b : Addr} {o : HO} (h : H a = some o) (h' : H b = none) : a ≠ b := by
  intro e; subst e; rw [h] at h'; cases h'

section
variable (P : Program) (w : World)
def ObjOk (H : Hp) (h : Heap) (a : Addr) : HO → Prop
  | .lst xs => xs.length ≤ sizeLine ∧ ∃ (its : List Value) (n : Nat), Vals xs its ∧ h.get? a = some { cls := .type "list", data := .seq its.toArray n }
  | .tup xs => xs.length ≤ sizeLine ∧ ∃ its : List Value, Vals xs its ∧ IsTup h a its.toArray
  | .dK kvs => kvs.length ≤ sizeLine ∧ (a == sysModules) = false ∧ ∃ vs, KV kvs vs ∧ h.DictOf (mixKind P w) a vs
  | .dT kvs => kvs.length ≤ sizeLine ∧ (a == sysModules) = false ∧ ∃ xs : List (List Key × Addr × Value),
      Paired (fun (p : List Key × V) (q : List Key × Addr × Value) => p.1 = q.1 ∧ H q.2.1 = some (.tup (p.1.map kV)) ∧ RelV p.2 q.2.2) kvs xs ∧
      ∃ o es ep, h.get? a = some o ∧ o.ExactDict ∧ o.data = .dict es ep ∧ es.toList = xs.map (entryOfKey (tupleKind (mixKind P w))) ∧ (xs.map (·.1)).Nodup
  | .set S n => h.SetOf (intKind P w) a S n
  | .ins C dx fs => H dx = some (.own a) ∧ fs.length ≤ 1000 ∧ dx ≠ a ∧ h.get? a = some (PySem.W.instObj C dx) ∧
      ∃ mA, h.Ns1 dx mA ∧ (∀ f, RelO (fs.lookup f) (mA f)) ∧ PySem.Within mA (fs.map (·.1))
  | .own _ => ∃ o, h.get? a = some o
  | .xd fs => ∃ mA, h.Ns1 a mA ∧ ∀ f, RelO (fs.lookup f) (mA f)
  | .rng lo hi => ∃ t u v, h.get? a = some { cls := .type "range", data := .fields #[.int lo t, .int hi u, .int 1 v] }
  | .frz o u => h.get? a = some o ∧ ObjOk H h a u
  | .tbl ps => h.get? a = some { cls := .none, data := .fields ps }
  | .met f x => h.get? a = some (PySem.W.methodObj (.ref f) (.ref x))
  | .ext φ => φ h ∧ (∃ o, h.get? a = some o) ∧ ∀ h1 h2 : Heap, φ h1 → (∀ o, h1.get? a = some o → h2.get? a = some o) → φ h2
/-- the abstract heap is held -/
def HOk (H : Hp) (h : Heap) : Prop := ∀ a o, H a = some o → ObjOk P w H h a o
end

section
variable {P : Program} {w : World} {H H' : Hp} {h h' : Heap} {a : Addr} {o : HO}
theorem ObjOk.lt (x : ObjOk P w H h a o) : a < h.objs.size := by
  cases o with
  | lst xs => obtain ⟨_, _, _, _, e⟩ := x; exact Heap.lt_size e
  | tup xs => obtain ⟨_, _, _, p⟩ := x; exact p.lt
  | dK kvs => obtain ⟨_, _, _, _, o, _, _, e, _⟩ := x; exact Heap.lt_size e
  | dT kvs => obtain ⟨_, _, _, _, o, _, _, e, _⟩ := x; exact Heap.lt_size e
  | set S n => obtain ⟨o, _, _, _, e, _⟩ := x; exact Heap.lt_size e
  | ins C dx fs => obtain ⟨_, _, _, e, _⟩ := x; exact Heap.lt_size e
  | own y => obtain ⟨_, e⟩ := x; exact Heap.lt_size e
  | xd fs => obtain ⟨_, ⟨_, _, _, e, _⟩, _⟩ := x; exact Heap.lt_size e
  | rng lo hi => obtain ⟨_, _, _, e⟩ := x; exact Heap.lt_size e
  | frz ob u => obtain ⟨e, _⟩ := x; exact Heap.lt_size e
  | tbl ps => exact Heap.lt_size (show h.get? a = some _ from x)
  | met f y => exact Heap.lt_size (show h.get? a = some _ from x)
  | ext φ => obtain ⟨_, ⟨_, e⟩, _⟩ := x; exact Heap.lt_size e
theorem Paired.mapP {α β : Type} {F G : α → β → Prop} : ∀ {l₁ : List α} {l₂ : List β}, Paired F l₁ l₂ → (∀ a b, F a b → G a b) → Paired G l₁ l₂
  | _, _, .nil, _ => .nil
  | _, _, .cons r t, f => .cons (f _ _ r) (Paired.mapP t f)
/-- what an object's description leans on: its own object, its own dict, the tuples -/
theorem ObjOk.stay (x : ObjOk P w H h a o) (k : ∀ b u, (b = a ∨ H b = some (.own a)) → h.get? b = some u → h'.get? b = some u)
    (ho : ∀ b, H b = some (.own a) → H' b = some (.own a)) (ht : ∀ b xs, H b = some (.tup xs) → H' b = some (.tup xs)) : ObjOk P w H' h' a o := by
  induction o with
  | lst xs => obtain ⟨z, its, n, r, e⟩ := x; exact ⟨z, its, n, r, k _ _ (.inl rfl) e⟩
  | tup xs => obtain ⟨z, its, r, ob, e, c⟩ := x; exact ⟨z, its, r, ob, k _ _ (.inl rfl) e, c⟩
  | dK kvs => obtain ⟨z, y, vs, r, ob, es, ep, e, c⟩ := x; exact ⟨z, y, vs, r, ob, es, ep, k _ _ (.inl rfl) e, c⟩
  | dT kvs =>
    obtain ⟨z, y, xs, r, ob, es, ep, e, c⟩ := x
    exact ⟨z, y, xs, Paired.mapP r fun p q z => ⟨z.1, ht _ _ z.2.1, z.2.2⟩, ob, es, ep, k _ _ (.inl rfl) e, c⟩
  | set S n => obtain ⟨ob, es, ep, t, e, c⟩ := x; exact ⟨ob, es, ep, t, k _ _ (.inl rfl) e, c⟩
  | ins C dx fs =>
    obtain ⟨d, z, ne, e, mA, ⟨od, es, ep, e2, c⟩, r⟩ := x
    exact ⟨ho _ d, z, ne, k _ _ (.inl rfl) e, mA, ⟨od, es, ep, k _ _ (.inr d) e2, c⟩, r⟩
  | own y => obtain ⟨ob, e⟩ := x; exact ⟨ob, k _ _ (.inl rfl) e⟩
  | xd fs => obtain ⟨mA, ⟨od, es, ep, e, c⟩, r⟩ := x; exact ⟨mA, ⟨od, es, ep, k _ _ (.inl rfl) e, c⟩, r⟩
  | rng lo hi => obtain ⟨t, u, v, e⟩ := x; exact ⟨t, u, v, k _ _ (.inl rfl) e⟩
  | frz ob u ih => obtain ⟨e, q⟩ := x; exact ⟨k _ _ (.inl rfl) e, ih q⟩
  | tbl ps =>
    have e : h.get? a = some { cls := .none, data := .fields ps } := x
    show h'.get? a = some { cls := .none, data := .fields ps }
    exact k a _ (.inl rfl) e
  | met f y =>
    have e : h.get? a = some (PySem.W.methodObj (.ref f) (.ref y)) := x
    show h'.get? a = some (PySem.W.methodObj (.ref f) (.ref y))
    exact k a _ (.inl rfl) e
  | ext φ => obtain ⟨p, ⟨o, e⟩, st⟩ := x; exact ⟨st _ _ p fun o q => k _ _ (.inl rfl) q, ⟨o, k _ _ (.inl rfl) e⟩, st⟩
theorem HOk.lt (x : HOk P w H h) (e : H a = some o) : a < h.objs.size := (x a o e).lt
theorem HOk.fresh (x : HOk P w H h) (e : h.objs.size ≤ a) : H a = none := by
  cases q : H a with
  | none => rfl
  | some u => exact absurd (Nat.lt_of_lt_of_le (x.lt q) e) (Nat.lt_irrefl _)
/-- every object of the heap is kept -/
theorem HOk.kept (x : HOk P w H h) (k : ∀ b u, h.get? b = some u → h'.get? b = some u) : HOk P w H h' := fun a o e =>
  (x a o e).stay (fun b u _ q => k b u q) (fun _ q => q) fun _ _ q => q
/-- a new object is laid and tracked -/
theorem HOk.laid (x : HOk P w H h) (k : ∀ b u, h.get? b = some u → h'.get? b = some u) (hp : h.objs.size ≤ a) (new : ObjOk P w (upd H a o) h' a o) : HOk P w (upd H a o) h' := fun b u e => by
  have hn := x.fresh hp
  by_cases hb : b = a
  · subst hb; rw [upd_same] at e; cases e; exact new
  · rw [upd_ne hb] at e
    exact (x b u e).stay (fun c v _ q => k c v q) (fun c q => by rw [upd_ne (ne_of_none q hn)]; exact q) fun c xs q => by rw [upd_ne (ne_of_none q hn)]; exact q
end

/-- what may be read as u: it is u, or a known u -/
def Rd (H : Hp) (a : Addr) (u : HO) : Prop := H a = some u ∨ ∃ o, H a = some (.frz o u)
theorem Rd.ok {P : Program} {w : World} {H : Hp} {h : Heap} {a : Addr} {u : HO} (r : Rd H a u) (x : HOk P w H h) : ObjOk P w H h a u := by
  rcases r with r | ⟨o, r⟩
  · exact x a u r
  · obtain ⟨_, q⟩ := x a _ r
    exact q
/-- what may be written -/
def Mut : Option HO → Prop
  | some (.lst _) => True
  | some (.dK _) => True
  | some (.dT _) => True
  | some (.set _ _) => True
  | some (.ins _ _ _) => True
  | some (.ext _) => True
  | _ => False
section
variable {P : Program} {w : World} {H : Hp} {h h' : Heap} {x e : Addr} {o' : HO}
/-- the object at e is changed: x itself, or the dict of the instance x -/
theorem HOk.write (ok : HOk P w H h) (mu : Mut (H x)) (he : e = x ∨ H e = some (.own x)) (k : ∀ b u, b ≠ e → h.get? b = some u → h'.get? b = some u) (heo : ∃ u, h'.get? e = some u)
    (new : ObjOk P w (upd H x o') h' x o') : HOk P w (upd H x o') h' := fun b u q => by
  have nown : ∀ c y, H c = some (.own y) → c ≠ x := fun c y r z => by subst z; rw [r] at mu; exact mu
  have ntup : ∀ c xs, H c = some (.tup xs) → c ≠ x := fun c xs r z => by subst z; rw [r] at mu; exact mu
  by_cases hb : b = x
  · subst hb; rw [upd_same] at q; cases q; exact new
  · rw [upd_ne hb] at q
    by_cases hbe : b = e
    · have q' : H b = some (.own x) := by
        rcases he with z | z
        · exact absurd (hbe.trans z) hb
        · rw [hbe]; exact z
      rw [q] at q'; cases q'
      obtain ⟨v, hv⟩ := heo
      exact ⟨v, by rw [hbe]; exact hv⟩
    · refine (ok b u q).stay (fun c v hc r => k c v ?_ r) (fun c r => by rw [upd_ne (nown c b r)]; exact r) fun c xs r => by rw [upd_ne (ntup c xs r)]; exact r
      rcases hc with rfl | hc
      · exact hbe
      · rintro rfl
        rcases he with z | z
        · exact nown c b hc z
        · rw [hc] at z; cases z; exact hb rfl
end

/-! ### kept unless tracked; of the frames at fs (the callers') the slots may change (an exception that passes writes there); of the records at ex (iterators) nothing is said -/
structure Un (fs ex : List Addr) (H H' : Hp) (h h' : Heap) : Prop where
  keep : ∀ b o, h.get? b = some o → H b = none → b ∉ fs → b ∉ ex → h'.get? b = some o
  slot : ∀ b o, h.get? b = some o → H b = none → b ∈ fs → b ∉ ex → ∃ sl, h'.get? b = some { o with slots := sl }
  free : ∀ b o, h.get? b = some o → H b = none → b ∉ ex → H' b = none
  there : ∀ b o, h.get? b = some o → b ∉ ex → ∃ o', h'.get? b = some o'
  tups : ∀ b xs, H b = some (.tup xs) → H' b = some (.tup xs)
  frzs : ∀ b o u, H b = some (.frz o u) → H' b = some (.frz o u)
  tbls : ∀ b ps, H b = some (.tbl ps) → ∃ more, H' b = some (.tbl (ps ++ more))
section
variable {fs fs' ex ex' : List Addr} {H H1 H2 : Hp} {h h1 h2 h' : Heap} {a x e : Addr} {o : HO}
theorem Un.any (u : Un fs ex H H1 h h1) {b : Addr} {ob : Obj} (q : h.get? b = some ob) (n : H b = none) (hx : b ∉ ex) : ∃ sl, h1.get? b = some { ob with slots := sl } := by
  by_cases hb : b ∈ fs
  · exact u.slot b ob q n hb hx
  · exact ⟨ob.slots, u.keep b ob q n hb hx⟩
theorem Un.kept (k : ∀ b u, h.get? b = some u → h'.get? b = some u) : Un fs ex H H h h' :=
  ⟨fun b ob q _ _ _ => k b ob q, fun b ob q _ _ _ => ⟨ob.slots, k b ob q⟩, fun _ _ _ n _ => n, fun b ob q _ => ⟨ob, k b ob q⟩, fun _ _ q => q, fun _ _ _ q => q, fun _ ps q => ⟨#[], by rw [q]; simp⟩⟩
theorem Un.refl : Un fs ex H H h h := Un.kept fun _ _ q => q
theorem Un.laid (k : ∀ b u, h.get? b = some u → h'.get? b = some u) (hp : h.objs.size ≤ a) (hn : H a = none) : Un fs ex H (upd H a o) h h' where
  keep := fun b u q _ _ _ => k b u q
  slot := fun b u q _ _ _ => ⟨u.slots, k b u q⟩
  free := fun b u q n _ => by rw [upd_ne (Nat.ne_of_lt (Nat.lt_of_lt_of_le (Heap.lt_size q) hp))]; exact n
  there := fun b u q _ => ⟨u, k b u q⟩
  tups := fun b xs q => by rw [upd_ne (ne_of_none q hn)]; exact q
  frzs := fun b u xs q => by rw [upd_ne (ne_of_none q hn)]; exact q
  tbls := fun b ps q => ⟨#[], by rw [upd_ne (ne_of_none q hn), q]; simp⟩
theorem Un.write (mu : Mut (H x)) (he : e = x ∨ H e = some (.own x)) (k : ∀ b u, b ≠ e → h.get? b = some u → h'.get? b = some u) (heo : ∃ u, h'.get? e = some u) : Un fs ex H (upd H x o) h h' := by
  have hx : ∀ b, H b = none → b ≠ x := fun b n z => by subst z; rw [n] at mu; exact mu
  have hb : ∀ b, H b = none → b ≠ e := fun b n z => by
    subst z
    rcases he with r | r
    · exact hx b n r
    · rw [n] at r; cases r
  have hm : ∀ b u, H b = some u → ¬ Mut (some u) → b ≠ x := fun b u q nm z => by subst z; rw [q] at mu; exact nm mu
  refine ⟨fun b u q n _ _ => k b u (hb b n) q, fun b u q n _ _ => ⟨u.slots, k b u (hb b n) q⟩, fun b u q n _ => by rw [upd_ne (hx b n)]; exact n, fun b u q _ => ?_,
    fun b xs q => by rw [upd_ne (hm b _ q fun z => z)]; exact q, fun b u xs q => by rw [upd_ne (hm b _ q fun z => z)]; exact q, fun b ps q => ⟨#[], by rw [upd_ne (hm b _ q fun z => z), q]; simp⟩⟩
  by_cases hbe : b = e
  · subst hbe; exact heo
  · exact ⟨u, k b u hbe q⟩
end

/-! ### the heap without what is tracked -/
def trk (h : Heap) (H : Hp) : List Addr := (List.range h.objs.size).filter fun a => (H a).isSome
def hidT (h : Heap) (H : Hp) : Heap := PySem.W.hideAll h (trk h H)
theorem hidT_size (h : Heap) (H : Hp) : (hidT h H).objs.size = h.objs.size := PySem.W.hideAll_size _ _
theorem hidT_get {h : Heap} {H : Hp} {b : Addr} {o : Obj} (e : h.get? b = some o) (n : H b = none) : (hidT h H).get? b = some o :=
  PySem.W.hideAll_get _ e fun hm => by
    have q : (H b).isSome = true := (List.mem_filter.mp hm).2
    rw [n] at q; simp at q
theorem of_hidT {h : Heap} {H : Hp} {b : Addr} {o : Obj} (e : (hidT h H).get? b = some o) : h.get? b = some o ∧ H b = none := by
  have e' : h.get? b = some o := PySem.W.of_hideAll (trk h H) e
  refine ⟨e', ?_⟩
  cases q : H b with
  | none => rfl
  | some x =>
    have hm : b ∈ trk h H := List.mem_filter.mpr ⟨List.mem_range.mpr (Heap.lt_size e'), by simp [q]⟩
    have z : (hidT h H).get? b = none := PySem.W.hideAll_none (trk h H) hm
    rw [z] at e; cases e

/-! ### OpenK's ledger, filled with every new object but one -/
def allNews (g h : Heap) (L : Addr) : List (Addr × Obj) := (List.range h.objs.size).filterMap fun a => if a = L ∨ (g.get? a).isSome = true then none else (h.get? a).map fun o => (a, o)
def rest (g h : Heap) (L d : Addr) : List (Addr × Obj) := (allNews g h L).filter fun p => decide (p.1 ≠ d)
end L2

namespace L2
open PySem PySem.Spec PyProof.Rows

/-- the module's facts, over the base: the heap at the law's entry without what is tracked there -/
structure Mod (K : PySem.W.Frag) (mg : Str → Option Value) (base : Heap) : Prop where
  kin : K.In base
  glob : base.Ns mainGlobals mg
  blt : ∃ mb, base.Ns builtinsNs mb ∧ ∀ x : Str, x ≠ "__name__" → mb x = bootBuiltins x
  nolimit : base.NoLimit

/-- the context: a def's body (or a comprehension's block) running. base: fixed through the whole law; s₀, H₀: the entry; outer: the frames whose slots others may change (a def's callers); stack: all frames that run;
   ex: iterators that were made ahead of the entry and are walked here (a comprehension's); fn: the names whose cells were made at the entry (a def: all; a comprehension's block: its own); calm: not within an except suite; pn: pins that every state bears; xe: what is wanted of an exception that leaves the code -/
structure Cx where
  prog : Program
  w : World
  K : PySem.W.Frag
  mg : Str → Option Value
  base : Heap
  A : Around
  N : List Str
  s₀ : Shared
  H₀ : Hp
  env : Env
  outer : List Env
  stack : List Env
  ex : List Addr
  fn : Str → Bool
  calm : Bool
  pn : List (Addr × Obj)
  xe : Value → Shared → Prop
/-- the callers' frames -/
def frs (l : List Env) : List Addr := l.filterMap (·.frame)
abbrev Cx.fs (X : Cx) : List Addr := frs X.outer

def Vis (sc : Scope) (x : Str) : Prop := sc.names.lookup x = some .local ∨ sc.names.lookup x = some .cell ∨ sc.names.lookup x = some .free
def Loc (sc : Scope) (x : Str) : Prop := sc.names.lookup x = some .local ∨ sc.names.lookup x = some .cell
def Look (env : Env) (h : Heap) (m : Str → Option Value) (x : Str) (u : Value) : Prop :=
  (env.kindOf x = some .local ∧ m x = some u) ∨ ((env.kindOf x = some .cell ∨ env.kindOf x = some .free) ∧ ∃ c, env.cells.lookup x = some c ∧ h.IsCell c (some u))

structure Cx.Ok (X : Cx) : Prop where
  mod : Mod X.K X.mg X.base
  kind : X.env.scope.kind = .function
  glob : X.env.globals = mainGlobals
  blt : X.env.builtins = builtinsNs
  above : X.s₀.heap.objs.size ≤ X.env.locals
  inj : ∀ x y c, X.env.cells.lookup x = some c → X.env.cells.lookup y = some c → x = y
  has : ∀ x, (X.env.kindOf x = some .cell ∨ X.env.kindOf x = some .free) → ∃ c, X.env.cells.lookup x = some c
  cab : ∀ x c, X.fn x = true → X.env.cells.lookup x = some c → X.s₀.heap.objs.size ≤ c
  hd : X.calm = true → X.A.handled = none
  frames : X.A.frames = some X.stack
  stk : X.stack = X.outer ∨ (X.stack = X.env :: X.outer ∧ X.env.frame = some X.env.locals)
  exf : ∀ b ∈ X.ex, b ≠ X.env.locals ∧ ∀ x c, X.env.cells.lookup x = some c → c ≠ b
  bs : ∀ b o, X.base.get? b = some o → X.s₀.heap.get? b = some o ∧ X.H₀ b = none
  bsz : X.base.objs.size ≤ X.s₀.heap.objs.size
  noex : ∀ b o, X.base.get? b = some o → b ∉ X.ex
  exfs : ∀ b ∈ X.ex, b ∉ X.fs
  funs : X.s₀.heap.FunFrames X.base X.outer
  frf : ∀ b ∈ X.fs, X.H₀ b = none

structure Inv (X : Cx) (pins : List (Addr × Obj)) (σ : List (Option V)) (H : Hp) (s : Shared) : Prop where
  ok : X.Ok
  os : s.os = X.s₀.os
  bare : AllBare s.gens
  base : Un X.fs X.ex X.H₀ H X.s₀.heap s.heap
  loc : ∃ m, s.heap.Ns X.env.locals m ∧ ∀ (i : Nat) (x : Str) (v : V), X.N[i]? = some x → σ[i]? = some (some v) → Vis X.env.scope x → ∃ u, RelV v u ∧ Look X.env s.heap m x u
  cell : ∀ x c, X.env.cells.lookup x = some c → ∃ v, s.heap.IsCell c v
  free : H X.env.locals = none
  freeC : ∀ x c, X.env.cells.lookup x = some c → H c = none
  pin : ∀ p ∈ X.pn ++ pins, s.heap.get? p.1 = some p.2 ∧ H p.1 = none ∧ p.1 ≠ X.env.locals ∧ p.1 ∉ X.fs ∧ ∀ v, p.2.data ≠ .cell v
  hok : HOk X.prog X.w H s.heap
  len : σ.length = X.N.length

section
variable {X : Cx} {pins : List (Addr × Obj)} {σ : List (Option V)} {H H' : Hp} {s : Shared} {h' : Heap}

theorem Cx.Ok.nofr (ok : X.Ok) {b : Addr} {o : Obj} (e : X.base.get? b = some o) : b ∉ X.fs := fun hb => by
  have := (ok.funs.mem hb).1
  rw [e] at this; cases this
theorem Inv.bs (I : Inv X pins σ H s) : ∀ b o, X.base.get? b = some o → s.heap.get? b = some o ∧ H b = none := fun b o e =>
  ⟨I.base.keep b o (I.ok.bs b o e).1 (I.ok.bs b o e).2 (I.ok.nofr e) (I.ok.noex b o e), I.base.free b o (I.ok.bs b o e).1 (I.ok.bs b o e).2 (I.ok.noex b o e)⟩
theorem Inv.bk (I : Inv X pins σ H s) : ∀ b o, X.base.get? b = some o → s.heap.get? b = some o := fun b o e => (I.bs b o e).1
theorem Inv.mod (I : Inv X pins σ H s) : Mod X.K X.mg X.base := I.ok.mod
theorem Inv.kIn (I : Inv X pins σ H s) : X.K.In s.heap := I.ok.mod.kin.keeps I.bk
/-- the frame over the base: for OpenK's rules (K.In X.base is I.mod.kin) -/
theorem Inv.fr (I : Inv X pins σ H s) : ∃ m, Fr X.base X.env.locals s.heap m :=
  let ⟨m, hn, _⟩ := I.loc
  ⟨m, hn, I.bk, Nat.le_trans I.ok.bsz I.ok.above⟩
theorem Inv.lt (I : Inv X pins σ H s) : X.env.locals < s.heap.objs.size := let ⟨_, hn, _⟩ := I.loc; hn.lt
theorem Inv.sz (I : Inv X pins σ H s) : X.s₀.heap.objs.size ≤ s.heap.objs.size := Nat.le_trans I.ok.above (Nat.le_of_lt I.lt)
theorem Inv.nofs (I : Inv X pins σ H s) {a : Addr} (h : s.heap.objs.size ≤ a) : a ∉ X.fs := fun hb => by
  obtain ⟨_, o, ho, _⟩ := I.ok.funs.mem hb
  exact absurd (Nat.lt_of_lt_of_le (Heap.lt_size ho) (Nat.le_trans I.sz h)) (Nat.lt_irrefl _)
theorem Inv.cne (I : Inv X pins σ H s) : ∀ x c, X.env.cells.lookup x = some c → c ≠ X.env.locals := fun x c e z => by
  obtain ⟨v, o, ho, hd⟩ := I.cell x c e
  obtain ⟨m, ⟨o', es, ep, ho', hd', _⟩, _⟩ := I.loc
  rw [z, ho'] at ho; cases ho; rw [hd'] at hd; cases hd
theorem Inv.funs (I : Inv X pins σ H s) : s.heap.FunFrames X.base X.outer := by
  have all : ∀ (l : List Env), (∀ b ∈ frs l, b ∈ X.fs) → X.s₀.heap.FunFrames X.base l → s.heap.FunFrames X.base l := by
    intro l
    induction l with
    | nil => intro _ _; trivial
    | cons env r ih =>
      intro hs hl
      obtain ⟨hk, ⟨L, o, hf, hn, ho, hd⟩, hr⟩ := hl
      have hL : L ∈ X.fs := hs L (by unfold frs; rw [List.filterMap_cons, hf]; exact List.mem_cons_self)
      obtain ⟨sl, e⟩ := I.base.slot L o ho (I.ok.frf L hL) hL fun z => I.ok.exfs L z hL
      exact ⟨hk, ⟨L, _, hf, hn, e, hd⟩, ih (fun b hb => hs b (by unfold frs; rw [List.filterMap_cons, hf]; exact List.mem_cons_of_mem _ hb)) hr⟩
  exact all X.outer (fun _ hb => hb) I.ok.funs

/-- the frames that run, for a call -/
theorem Inv.stack (I : Inv X pins σ H s) : s.heap.FunFrames X.base X.stack := by
  rcases I.ok.stk with e | ⟨e, hf⟩
  · rw [e]; exact I.funs
  · rw [e]
    obtain ⟨m, hn, _⟩ := I.loc
    refine .cons (by rw [I.ok.kind]; decide) hf hn ?_ I.funs
    exact Heap.get?_none_of_le (Nat.le_trans I.ok.bsz I.ok.above)
theorem Inv.stkSub (I : Inv X pins σ H s) : ∀ b ∈ frs X.stack, b ∈ X.env.locals :: X.fs := fun b hb => by
  rcases I.ok.stk with e | ⟨e, hf⟩
  · rw [e] at hb; exact List.mem_cons_of_mem _ hb
  · rw [e] at hb
    unfold frs at hb
    rw [List.filterMap_cons, hf] at hb
    exact hb
theorem Inv.stkFree (I : Inv X pins σ H s) : ∀ b ∈ frs X.stack, H b = none := fun b hb => by
  rcases List.mem_cons.mp (I.stkSub b hb) with e | hb
  · rw [e]; exact I.free
  · obtain ⟨_, o, ho, _⟩ := I.ok.funs.mem hb
    exact I.base.free b o ho (I.ok.frf b hb) fun z => I.ok.exfs b z hb

/-- THE STEP: the untracked objects but the frame and the records at ch are kept (the callers' frames up to slots), the frame's map is kept, the new abstract heap is held -/
theorem Inv.step {g' : Array GenState} {t' : Nat} {d' : Drawn} {ch : List Addr} (I : Inv X pins σ H s)
    (hch : ∀ b ∈ ch, (b ∈ X.ex ∨ X.s₀.heap.objs.size ≤ b) ∧ b ≠ X.env.locals ∧ (∀ x c, X.env.cells.lookup x = some c → c ≠ b) ∧ ∀ p ∈ X.pn ++ pins, p.1 ≠ b)
    (keep : ∀ b o, b ≠ X.env.locals → b ∉ X.fs → b ∉ ch → s.heap.get? b = some o → H b = none → h'.get? b = some o)
    (slot : ∀ b o, b ≠ X.env.locals → b ∈ X.fs → b ∉ ch → s.heap.get? b = some o → H b = none → ∃ sl, h'.get? b = some { o with slots := sl }) (free : ∀ b o, b ∉ ch → s.heap.get? b = some o → H b = none → H' b = none)
    (there : ∀ b o, b ∉ ch → s.heap.get? b = some o → ∃ o', h'.get? b = some o')
    (tups : ∀ b xs, H b = some (.tup xs) → H' b = some (.tup xs)) (frzs : ∀ b o u, H b = some (.frz o u) → H' b = some (.frz o u)) (tbls : ∀ b ps, H b = some (.tbl ps) → ∃ more, H' b = some (.tbl (ps ++ more)))
    (ns : ∀ m, s.heap.Ns X.env.locals m → h'.Ns X.env.locals m) (hok : HOk X.prog X.w H' h') (hg : AllBare g') :
    Inv X pins σ H' { s with heap := h', gens := g', drawn := d', toks := t' } := by
  have neL : ∀ b o, X.s₀.heap.get? b = some o → b ≠ X.env.locals := fun b o e => Nat.ne_of_lt (Nat.lt_of_lt_of_le (Heap.lt_size e) I.ok.above)
  have neC : ∀ b o, X.s₀.heap.get? b = some o → b ∉ X.ex → b ∉ ch := fun b o e hx hb => by
    rcases (hch b hb).1 with z | z
    · exact hx z
    · exact absurd (Nat.lt_of_lt_of_le (Heap.lt_size e) z) (Nat.lt_irrefl _)
  have cellK : ∀ x c, X.env.cells.lookup x = some c → ∀ v, s.heap.IsCell c v → h'.IsCell c v := fun x c e v ⟨o, ho, hd⟩ => by
    have nch : c ∉ ch := fun z => (hch c z).2.2.1 x c e rfl
    by_cases hc : c ∈ X.fs
    · obtain ⟨sl, q⟩ := slot c o (I.cne x c e) hc nch ho (I.freeC x c e)
      exact ⟨_, q, hd⟩
    · exact ⟨o, keep c o (I.cne x c e) hc nch ho (I.freeC x c e), hd⟩
  refine ⟨I.ok, I.os, hg, ⟨fun b o e n hb hx => ?_, fun b o e n hb hx => ?_, fun b o e n hx => ?_, fun b o e hx => ?_, fun b xs e => tups b xs (I.base.tups b xs e), fun b o xs e => frzs b o xs (I.base.frzs b o xs e), fun b ps e => ?_⟩, ?_, fun x c e => ?_, ?_, fun x c e => ?_, fun p hp => ?_, hok, I.len⟩
  · exact keep b o (neL b o e) hb (neC b o e hx) (I.base.keep b o e n hb hx) (I.base.free b o e n hx)
  · obtain ⟨sl, e1⟩ := I.base.slot b o e n hb hx
    obtain ⟨sl', e2⟩ := slot b _ (neL b o e) hb (neC b o e hx) e1 (I.base.free b o e n hx)
    exact ⟨sl', e2⟩
  · obtain ⟨o', e1⟩ := I.base.there b o e hx
    exact free b o' (neC b o e hx) e1 (I.base.free b o e n hx)
  · obtain ⟨o', e1⟩ := I.base.there b o e hx
    exact there b o' (neC b o e hx) e1
  · obtain ⟨m1, e1⟩ := I.base.tbls b ps e
    obtain ⟨m2, e2⟩ := tbls b _ e1
    exact ⟨m1 ++ m2, by rw [e2, Array.append_assoc]⟩
  · obtain ⟨m, hn, hl⟩ := I.loc
    refine ⟨m, ns m hn, fun i x v e1 e2 e3 => ?_⟩
    obtain ⟨u, r, l⟩ := hl i x v e1 e2 e3
    refine ⟨u, r, ?_⟩
    rcases l with l | ⟨k, c, e, z⟩
    · exact .inl l
    · exact .inr ⟨k, c, e, cellK x c e _ z⟩
  · obtain ⟨v, z⟩ := I.cell x c e
    exact ⟨v, cellK x c e v z⟩
  · obtain ⟨m, ⟨o, _, _, ho, _⟩, _⟩ := I.loc
    exact free _ o (fun z => (hch _ z).2.1 rfl) ho I.free
  · obtain ⟨v, o, ho, hd⟩ := I.cell x c e
    exact free c o (fun z => (hch c z).2.2.1 x c e rfl) ho (I.freeC x c e)
  · obtain ⟨e, n, ne, nf, d⟩ := I.pin p hp
    have nch : p.1 ∉ ch := fun z => (hch p.1 z).2.2.2 p hp rfl
    exact ⟨keep p.1 p.2 ne nf nch e n, free p.1 p.2 nch e n, ne, nf, d⟩
/-- .. where the frame's own object is kept too -/
theorem Inv.un {t' : Nat} (I : Inv X pins σ H s) (u : Un X.fs [] H H' s.heap h') (hok : HOk X.prog X.w H' h') : Inv X pins σ H' { s with heap := h', toks := t' } := by
  obtain ⟨m, ⟨o, es, ep, ho, r⟩, _⟩ := id I.loc
  obtain ⟨sl, hL⟩ := u.any ho I.free (by simp)
  exact I.step (g' := s.gens) (d' := s.drawn) (ch := []) (fun _ z => nomatch z) (fun b o _ hb _ e n => u.keep b o e n hb (by simp)) (fun b o _ hb _ e n => u.slot b o e n hb (by simp)) (fun b o _ e n => u.free b o e n (by simp)) (fun b o _ e => u.there b o e (by simp)) u.tups u.frzs u.tbls (fun m' hm => by
    obtain ⟨o', es', ep', ho', r'⟩ := hm
    rw [ho] at ho'; cases ho'
    exact ⟨_, es', ep', hL, r'⟩) hok I.bare
/-- behind a call (or a comprehension's block): the slots of this frame may have changed too, the records at ch may have turned -/
theorem Inv.call {g' : Array GenState} {t' : Nat} {d' : Drawn} {ch : List Addr} (I : Inv X pins σ H s) (u : Un (frs X.stack) ch H H' s.heap h') (hok : HOk X.prog X.w H' h') (hg : AllBare g')
    (hch : ∀ b ∈ ch, (b ∈ X.ex ∨ X.s₀.heap.objs.size ≤ b) ∧ b ≠ X.env.locals ∧ (∀ x c, X.env.cells.lookup x = some c → c ≠ b) ∧ ∀ p ∈ X.pn ++ pins, p.1 ≠ b) :
    Inv X pins σ H' { s with heap := h', gens := g', drawn := d', toks := t' } := by
  obtain ⟨m, ⟨o, es, ep, ho, r⟩, _⟩ := id I.loc
  obtain ⟨sl, hL⟩ := u.any ho I.free fun z => (hch _ z).2.1 rfl
  exact I.step (ch := ch) hch (fun b o hL hb hc e n => u.keep b o e n (fun z => (List.mem_cons.mp (I.stkSub b z)).elim hL hb) hc) (fun b o _ _ hc e n => u.any e n hc) (fun b o hc e n => u.free b o e n hc) (fun b o hc e => u.there b o e hc) u.tups u.frzs u.tbls (fun m' hm => by
    obtain ⟨o', es', ep', ho', r'⟩ := hm
    rw [ho] at ho'; cases ho'
    exact ⟨_, es', ep', hL, r'⟩) hok hg
/-- an untracked record of ours (an iterator) has turned -/
theorem Inv.turned {t' : Nat} {it : Addr} (I : Inv X pins σ H s) (k : ∀ b o, b ≠ it → s.heap.get? b = some o → h'.get? b = some o) (hn : H it = none) (hL : it ≠ X.env.locals)
    (h1 : it ∈ X.ex ∨ X.s₀.heap.objs.size ≤ it) (h2 : ∀ x c, X.env.cells.lookup x = some c → c ≠ it) (h3 : ∀ p ∈ X.pn ++ pins, p.1 ≠ it) : Inv X pins σ H { s with heap := h', toks := t' } := by
  have nit : ∀ b u, H b = some u → b ≠ it := fun b u e z => by rw [z, hn] at e; cases e
  refine I.step (g' := s.gens) (d' := s.drawn) (ch := [it]) (fun b hb => ?_) (fun b o _ _ hc e _ => k b o (fun z => hc (by simp [z])) e) (fun b o _ _ hc e _ => ⟨o.slots, k b o (fun z => hc (by simp [z])) e⟩) (fun _ _ _ _ n => n)
    (fun b o hc e => ⟨o, k b o (fun z => hc (by simp [z])) e⟩) (fun _ _ e => e) (fun _ _ _ e => e) (fun b ps e => ⟨#[], by rw [e]; simp⟩) (fun m hm => ?_) (fun b u e => ?_) I.bare
  · have e : b = it := by simpa using hb
    subst e
    exact ⟨h1, hL, h2, h3⟩
  · obtain ⟨o, es, ep, ho, r⟩ := hm
    exact ⟨o, es, ep, k _ o (Ne.symm hL) ho, r⟩
  · refine (I.hok b u e).stay (fun c v hc q => k c v ?_ q) (fun _ q => q) fun _ _ q => q
    rcases hc with z | z
    · rw [z]; exact nit b u e
    · exact nit c _ z
theorem Inv.tok (I : Inv X pins σ H s) (t : Nat) : Inv X pins σ H { s with toks := t } := I.un (h' := s.heap) (t' := t) Un.refl I.hok
/-- all objects kept -/
theorem Inv.kept {t' : Nat} (I : Inv X pins σ H s) (k : ∀ b u, s.heap.get? b = some u → h'.get? b = some u) : Inv X pins σ H { s with heap := h', toks := t' } := I.un (Un.kept k) (I.hok.kept k)
/-- a new object laid and tracked -/
theorem Inv.laid {a : Addr} {o : HO} {t' : Nat} (I : Inv X pins σ H s) (k : ∀ b u, s.heap.get? b = some u → h'.get? b = some u) (hp : s.heap.objs.size ≤ a) (new : ObjOk X.prog X.w (upd H a o) h' a o) :
    Inv X pins σ (upd H a o) { s with heap := h', toks := t' } := I.un (Un.laid k hp (I.hok.fresh hp)) (I.hok.laid k hp new)
/-- an object written -/
theorem Inv.write {x e : Addr} {o : HO} {t' : Nat} (I : Inv X pins σ H s) (mu : Mut (H x)) (he : e = x ∨ H e = some (.own x)) (k : ∀ b u, b ≠ e → s.heap.get? b = some u → h'.get? b = some u) (heo : ∃ u, h'.get? e = some u)
    (new : ObjOk X.prog X.w (upd H x o) h' x o) : Inv X pins σ (upd H x o) { s with heap := h', toks := t' } := I.un (Un.write mu he k heo) (I.hok.write mu he k heo new)
/-- forgetting slots, pins -/
theorem Inv.weak {σ' : List (Option V)} (I : Inv X pins σ H s) (hl : σ'.length = σ.length) (w : ∀ (i : Nat) v, σ'[i]? = some (some v) → σ[i]? = some (some v)) : Inv X pins σ' H s :=
  ⟨I.ok, I.os, I.bare, I.base, let ⟨m, hn, hl'⟩ := I.loc; ⟨m, hn, fun i x v e1 e2 e3 => hl' i x v e1 (w i v e2) e3⟩, I.cell, I.free, I.freeC, I.pin, I.hok, hl.trans I.len⟩
theorem Inv.pins_of {pins' : List (Addr × Obj)} (I : Inv X pins σ H s) (h : ∀ p ∈ pins', s.heap.get? p.1 = some p.2 ∧ H p.1 = none ∧ p.1 ≠ X.env.locals ∧ p.1 ∉ X.fs ∧ ∀ v, p.2.data ≠ .cell v) : Inv X pins' σ H s :=
  ⟨I.ok, I.os, I.bare, I.base, I.loc, I.cell, I.free, I.freeC, fun p hp => (List.mem_append.mp hp).elim (fun z => I.pin p (List.mem_append_left _ z)) (h p), I.hok, I.len⟩

theorem nodup_ix {N : List Str} (hN : N.Nodup) {i j : Nat} {x : Str} (a : N[i]? = some x) (b : N[j]? = some x) : i = j := by
  obtain ⟨h1, e1⟩ := List.getElem?_eq_some_iff.mp a
  obtain ⟨h2, e2⟩ := List.getElem?_eq_some_iff.mp b
  exact (List.getElem_inj hN).mp (e1.trans e2.symm)

/-- a name is stored; what changed -/
theorem store_ok2 {M : Model} {A : Around} {E : Value → Shared → Prop} {i : Nat} {x : Str} {v : V} {u : Value} {Q : Unit → Shared → Prop} (I : Inv X pins σ H s) (hN : X.N.Nodup) (hi : X.N[i]? = some x) (hx : Loc X.env.scope x) (r : RelV v u)
    (h : ∀ s', Inv X pins (σ.set i (some v)) H s' → (∃ a, Heap.SameBut a s.heap s'.heap ∧ (a = X.env.locals ∨ X.env.cells.lookup x = some a)) → Q () s') (hf : X.fn x = true ∨ X.env.scope.names.lookup x = some .local := by first | exact .inl rfl | exact .inr rfl | assumption) : wpAny M A (storeName X.env x u) Q E s := by
  obtain ⟨m, hn, hl⟩ := id I.loc
  have hcls : (X.env.scope.kind == .class || (X.env.scope.kind == .module && X.env.locals != X.env.globals)) = false := by rw [I.ok.kind]; rfl
  have hiσ : i < σ.length := by rw [I.len]; exact (List.getElem?_eq_some_iff.mp hi).1
  have cne := I.cne
  have tracked : ∀ {a : Addr} {h' : Heap}, (∃ o, s.heap.get? a = some o ∧ H a = none) → Heap.SameBut a s.heap h' → HOk X.prog X.w H h' := fun {a h'} ha hs b ob e => by
    obtain ⟨_, _, hfree⟩ := ha
    refine (I.hok b ob e).stay (fun c w' hc q => (hs.2 c ?_).trans q) (fun _ q => q) fun _ _ q => q
    rintro rfl
    rcases hc with rfl | hc
    · rw [hfree] at e; cases e
    · rw [hfree] at hc; cases hc
  rcases hx with hk | hk
  · refine wpAny_storeName_local hk hn (fun h' hn' hs => ?_) hcls
    obtain ⟨oL, _, _, hoL, _⟩ := id hn
    refine h _ ⟨I.ok, I.os, I.bare, ⟨fun b o e n hb hx => ?_, fun b o e n hb hx => ?_, I.base.free, fun b o e hx => ?_, I.base.tups, I.base.frzs, I.base.tbls⟩, ⟨_, hn', fun j y v' e1 e2 e3 => ?_⟩, fun y c e => ?_, I.free, I.freeC, fun p hp => ?_, tracked ⟨oL, hoL, I.free⟩ hs, by simpa using I.len⟩ ⟨_, hs, .inl rfl⟩
    · exact (hs.2 b (Nat.ne_of_lt (Nat.lt_of_lt_of_le (Heap.lt_size e) I.ok.above))).trans (I.base.keep b o e n hb hx)
    · obtain ⟨sl, e1⟩ := I.base.slot b o e n hb hx
      exact ⟨sl, (hs.2 b (Nat.ne_of_lt (Nat.lt_of_lt_of_le (Heap.lt_size e) I.ok.above))).trans e1⟩
    · obtain ⟨o', e1⟩ := I.base.there b o e hx
      exact ⟨o', (hs.2 b (Nat.ne_of_lt (Nat.lt_of_lt_of_le (Heap.lt_size e) I.ok.above))).trans e1⟩
    · by_cases hj : j = i
      · subst hj
        rw [hi] at e1; cases e1
        rw [List.getElem?_set_self hiσ] at e2
        cases e2
        exact ⟨u, r, .inl ⟨hk, by simp⟩⟩
      · rw [List.getElem?_set_ne (Ne.symm hj)] at e2
        obtain ⟨u', r', q⟩ := hl j y v' e1 e2 e3
        refine ⟨u', r', ?_⟩
        rcases q with ⟨k, e⟩ | ⟨k, c, e, z⟩
        · refine .inl ⟨k, ?_⟩
          have : y ≠ x := fun e => hj (nodup_ix hN e1 (e ▸ hi))
          simp [this, e]
        · exact .inr ⟨k, c, e, z.sameBut hs (cne y c e)⟩
    · obtain ⟨w', z⟩ := I.cell y c e
      exact ⟨w', z.sameBut hs (cne y c e)⟩
    · obtain ⟨e, n, ne, nf, d⟩ := I.pin p hp
      exact ⟨(hs.2 p.1 ne).trans e, n, ne, nf, d⟩
  · have hfn : X.fn x = true := by
      rcases hf with z | z
      · exact z
      · rw [z] at hk; cases hk
    obtain ⟨c, hc⟩ := I.ok.has x (.inl hk)
    obtain ⟨w', z⟩ := I.cell x c hc
    refine wpAny_storeName_cell I.ok.kind hk hc z (fun h' hc' hs => ?_)
    obtain ⟨oc, hoc, hocd⟩ := id z
    refine h { s with heap := h' } ⟨I.ok, I.os, I.bare, ⟨fun b o e n hb hx => ?_, fun b o e n hb hx => ?_, I.base.free, fun b o e hx => ?_, I.base.tups, I.base.frzs, I.base.tbls⟩, ⟨m, hn.sameBut hs (Ne.symm (cne x c hc)), fun j y v' e1 e2 e3 => ?_⟩, fun y c' e => ?_, I.free, I.freeC, fun p hp => ?_, tracked ⟨oc, hoc, I.freeC x c hc⟩ hs, by simpa using I.len⟩ ⟨c, hs, .inr hc⟩
    · exact (hs.2 b (Nat.ne_of_lt (Nat.lt_of_lt_of_le (Heap.lt_size e) (I.ok.cab x c hfn hc)))).trans (I.base.keep b o e n hb hx)
    · obtain ⟨sl, e1⟩ := I.base.slot b o e n hb hx
      exact ⟨sl, (hs.2 b (Nat.ne_of_lt (Nat.lt_of_lt_of_le (Heap.lt_size e) (I.ok.cab x c hfn hc)))).trans e1⟩
    · obtain ⟨o', e1⟩ := I.base.there b o e hx
      exact ⟨o', (hs.2 b (Nat.ne_of_lt (Nat.lt_of_lt_of_le (Heap.lt_size e) (I.ok.cab x c hfn hc)))).trans e1⟩
    · by_cases hj : j = i
      · subst hj
        rw [hi] at e1; cases e1
        rw [List.getElem?_set_self hiσ] at e2
        cases e2
        exact ⟨u, r, .inr ⟨.inl hk, c, hc, hc'⟩⟩
      · rw [List.getElem?_set_ne (Ne.symm hj)] at e2
        obtain ⟨u', r', q⟩ := hl j y v' e1 e2 e3
        refine ⟨u', r', ?_⟩
        rcases q with q | ⟨k, c', e, z'⟩
        · exact .inl q
        · refine .inr ⟨k, c', e, z'.sameBut hs ?_⟩
          rintro rfl
          exact hj (nodup_ix hN e1 (I.ok.inj _ _ _ e hc ▸ hi))
    · by_cases hcc : c' = c
      · subst hcc; exact ⟨_, hc'⟩
      · obtain ⟨w2, z2⟩ := I.cell y c' e
        exact ⟨w2, z2.sameBut hs hcc⟩
    · obtain ⟨e, n, ne, nf, d⟩ := I.pin p hp
      refine ⟨(hs.2 p.1 ?_).trans e, n, ne, nf, d⟩
      intro q
      rw [q, hoc] at e
      have q' : oc = p.2 := Option.some.inj e
      exact d w' (by rw [← q']; exact hocd)
theorem store_ok {M : Model} {A : Around} {E : Value → Shared → Prop} {i : Nat} {x : Str} {v : V} {u : Value} {Q : Unit → Shared → Prop} (I : Inv X pins σ H s) (hN : X.N.Nodup) (hi : X.N[i]? = some x) (hx : Loc X.env.scope x) (r : RelV v u)
    (h : ∀ s', Inv X pins (σ.set i (some v)) H s' → Q () s') (hf : X.fn x = true ∨ X.env.scope.names.lookup x = some .local := by first | exact .inl rfl | exact .inr rfl | assumption) : wpAny M A (storeName X.env x u) Q E s :=
  store_ok2 I hN hi hx r (fun s' I' _ => h s' I') hf
/-- behind a call or a block, the state as it is -/
theorem Inv.call' {s' : Shared} {ch : List Addr} (I : Inv X pins σ H s) (ho : s'.os = s.os) (u : Un (frs X.stack) ch H H' s.heap s'.heap) (hok : HOk X.prog X.w H' s'.heap) (hg : AllBare s'.gens)
    (hch : ∀ b ∈ ch, (b ∈ X.ex ∨ X.s₀.heap.objs.size ≤ b) ∧ b ≠ X.env.locals ∧ (∀ x c, X.env.cells.lookup x = some c → c ≠ b) ∧ ∀ p ∈ X.pn ++ pins, p.1 ≠ b) : Inv X pins σ H' s' := by
  obtain ⟨h', g', d', t', o'⟩ := s'
  have e : o' = s.os := ho
  subst e
  exact I.call (g' := g') (t' := t') (d' := d') u hok hg hch
end

/-! ### the judgements -/
/-- an exception: its class, its own dict's address (where it has one), the abstract heap behind it -/
abbrev XK := Value → Option Addr → Hp → Prop
abbrev St := List (Option V)
abbrev VK := V → Hp → Prop
/-- an expression's reading; a test's; an argument list's -/
abbrev TE := St → Hp → VK → Prop
abbrev TT := St → Hp → (Bool → Hp → Prop) → Prop
abbrev TA := St → Hp → (List V → Hp → Prop) → Prop
/-- what is wanted behind a statement -/
structure Ends where
  nx : St → Hp → Prop
  rt : VK
  bk : St → Hp → Prop := fun _ _ => False
  ct : St → Hp → Prop := fun _ _ => False
abbrev TS := Ends → St → Hp → Prop

def EP (X : Cx) (pins : List (Addr × Obj)) (σ : St) (Q : VK) (u : Value) (s' : Shared) : Prop := ∃ v H', Inv X pins σ H' s' ∧ RelV v u ∧ Q v H'
def TP (X : Cx) (pins : List (Addr × Obj)) (σ : St) (Q : Bool → Hp → Prop) (b : Bool) (s' : Shared) : Prop := ∃ H', Inv X pins σ H' s' ∧ Q b H'
def AP (X : Cx) (pins : List (Addr × Obj)) (σ : St) (Q : List V → Hp → Prop) (us : List Value) (s' : Shared) : Prop := ∃ vs H', Inv X pins σ H' s' ∧ Vals vs us ∧ Q vs H'
def SP (X : Cx) (pins : List (Addr × Obj)) (D : Ends) (f : Flow) (s' : Shared) : Prop :=
  match f with
  | .next => ∃ σ' H', Inv X pins σ' H' s' ∧ D.nx σ' H'
  | .brk => ∃ σ' H', Inv X pins σ' H' s' ∧ D.bk σ' H'
  | .cont => ∃ σ' H', Inv X pins σ' H' s' ∧ D.ct σ' H'
  | .ret u => ∃ v σ' H', Inv X pins σ' H' s' ∧ RelV v u ∧ D.rt v H'

def PE (X : Cx) (e : Expr) (t : TE) : Prop :=
  ∀ (pins : List (Addr × Obj)) (s : Shared) (σ : St) (H : Hp) (Q : VK), Inv X pins σ H s → t σ H Q → wpAny (model X.prog X.w) X.A (eval e X.env) (EP X pins σ Q) X.xe s
def PT (X : Cx) (e : Expr) (t : TT) : Prop :=
  ∀ (pins : List (Addr × Obj)) (s : Shared) (σ : St) (H : Hp) (Q : Bool → Hp → Prop), Inv X pins σ H s → t σ H Q → wpAny (model X.prog X.w) X.A (isTrue e X.env (eval e X.env)) (TP X pins σ Q) X.xe s
/-- a test whatever its 'whole' is (and, or) -/
def PW (X : Cx) (e : Expr) (t : TT) : Prop :=
  ∀ (whole : Sem Value) (pins : List (Addr × Obj)) (s : Shared) (σ : St) (H : Hp) (Q : Bool → Hp → Prop), Inv X pins σ H s → t σ H Q → wpAny (model X.prog X.w) X.A (isTrue e X.env whole) (TP X pins σ Q) X.xe s
theorem PW.pt {X : Cx} {e : Expr} {t : TT} (h : PW X e t) : PT X e t := h _
/-- an argument list (no star), from the left -/
def PA (X : Cx) (es : List Expr) (t : TA) : Prop :=
  ∀ (pos : Pos) (pins : List (Addr × Obj)) (s : Shared) (σ : St) (H : Hp) (Q : List V → Hp → Prop), Inv X pins σ H s → t σ H Q → wpAny (model X.prog X.w) X.A (spliced (backTo pos (starEach es X.env))) (AP X pins σ Q) X.xe s
def PS (X : Cx) (st : Stmt) (t : TS) : Prop :=
  ∀ (pins : List (Addr × Obj)) (s : Shared) (σ : St) (H : Hp) (D : Ends), Inv X pins σ H s → t D σ H → wpAny (model X.prog X.w) X.A (exec st X.env) (SP X pins D) X.xe s
def PSs (X : Cx) (st : List Stmt) (t : TS) : Prop :=
  ∀ (pins : List (Addr × Obj)) (s : Shared) (σ : St) (H : Hp) (D : Ends), Inv X pins σ H s → t D σ H → wpAny (model X.prog X.w) X.A (execs st X.env) (SP X pins D) X.xe s
/-- weaken the end -/
theorem thn {α : Type} {t : Sem α} {Q Q' : α → Shared → Prop} {M : Model} {A : Around} {E : Value → Shared → Prop} {s : Shared} (h : wpAny M A t Q E s) (hQ : ∀ a s, Q a s → Q' a s) : wpAny M A t Q' E s := wpAny_mono h hQ fun _ _ x => x
end L2

namespace L2
open PySem PySem.Spec PyProof.Rows
section
variable {X : Cx}

/-- two expressions in a row -/
theorem bin {a b : Expr} {ta tb : TE} (ha : PE X a ta) (hb : PE X b tb) {pins : List (Addr × Obj)} {s : Shared} {σ : St} {H : Hp} {R : V → V → Hp → Prop} (I : Inv X pins σ H s) (h : ta σ H fun x H1 => tb σ H1 fun y H2 => R x y H2)
    {α : Type} {Q : α → Shared → Prop} {f : Value → Value → Sem α}
    (hf : ∀ v u s2 x y H2, Inv X pins σ H2 s2 → RelV x v → RelV y u → R x y H2 → wpAny (model X.prog X.w) X.A (f v u) Q X.xe s2) :
    wpAny (model X.prog X.w) X.A (eval a X.env) (fun v s₁ => wpAny (model X.prog X.w) X.A (eval b X.env) (fun u s₂ => wpAny (model X.prog X.w) X.A (f v u) Q X.xe s₂) X.xe s₁) X.xe s := by
  refine thn (ha pins s σ H _ I h) fun v s1 ⟨x, H1, I1, r1, q1⟩ => ?_
  refine thn (hb pins s1 σ H1 _ I1 q1) fun u s2 ⟨y, H2, I2, r2, q2⟩ => ?_
  exact hf v u s2 x y H2 I2 r1 r2 q2

/-! ### names and constants -/
def tVar (i : Nat) : TE := fun σ H Q => ∃ v, σ[i]? = some (some v) ∧ Q v H
def tC (v : V) : TE := fun _ H Q => Q v H
theorem pe_var {i : Nat} {x : Str} {pos : Pos} (hN : X.N[i]? = some x) (hv : Vis X.env.scope x) (hd : (x == ("__debug__" : Str)) = false := by decide) (hcd : (x == ("__classdict__" : Str)) = false := by decide) : PE X (.Name x pos) (tVar i) := by
  intro pins s σ H Q I h
  obtain ⟨v, e, h⟩ := h
  obtain ⟨m, hn, hl⟩ := I.loc
  obtain ⟨u, r, l⟩ := hl i x v hN e hv
  have fin : EP X pins σ Q u s := ⟨v, H, I, r, h⟩
  rcases l with ⟨hk, hm⟩ | ⟨hk, c, hc, hcell⟩
  · exact wpAny_Name (wpAny_loadName_local I.ok.kind hk hn hm fin) hd
  · rcases hk with hk | hk
    · exact wpAny_Name (wpAny_loadName_cell I.ok.kind hk hc hcell fin) hd
    · exact wpAny_Name (wpAny_loadName_free I.ok.kind hk hc hcell fin hcd) hd
theorem pe_int {i j pos} : PE X (.Constant (.int i) j pos) (tC (.int i)) := fun _ _ _ H _ I h => wpAny_Constant_int ⟨.int i, H, I.tok _, ⟨_, rfl⟩, h⟩
theorem pe_bl {b j pos} : PE X (.Constant (.bool b) j pos) (tC (.bl b)) := fun _ _ _ H _ I h => Constant_bool ⟨.bl b, H, I, rfl, h⟩
theorem pe_non {j pos} : PE X (.Constant .none j pos) (tC .non) := fun _ _ _ H _ I h => Constant_none ⟨.non, H, I, rfl, h⟩
theorem pe_str {x j pos} : PE X (.Constant (.str x) j pos) (tC (.str x)) := fun _ _ _ H _ I h => Calls.Constant_str ⟨.str x, H, I.tok _, ⟨_, rfl⟩, h⟩

/-- a global name of the def -/
def Gl (X : Cx) (x : Str) : Prop := X.env.kindOf x = some .globalImplicit
theorem ld_glob {E : Value → Shared → Prop} {pins : List (Addr × Obj)} {s : Shared} {σ : St} {H : Hp} {x : Str} {u : Value} {pos : Pos} {Q : Value → Shared → Prop} (I : Inv X pins σ H s) (hg : Gl X x) (hm : X.mg x = some u) (h : Q u s)
    (hd : (x == ("__debug__" : Str)) = false := by decide) : wpAny (model X.prog X.w) X.A (eval (.Name x pos) X.env) Q E s :=
  Calls.Name_function_global I.ok.kind hg (Calls.loadGlobal_global (by rw [I.ok.glob]; exact I.mod.glob.keeps I.bk) hm h) hd
theorem ld_blt {E : Value → Shared → Prop} {pins : List (Addr × Obj)} {s : Shared} {σ : St} {H : Hp} {x : Str} {u : Value} {pos : Pos} {Q : Value → Shared → Prop} (I : Inv X pins σ H s) (hg : Gl X x) (hm : X.mg x = none) (hv : bootBuiltins x = some u) (h : Q u s)
    (hn : x ≠ "__name__" := by decide) (hd : (x == ("__debug__" : Str)) = false := by decide) : wpAny (model X.prog X.w) X.A (eval (.Name x pos) X.env) Q E s := by
  obtain ⟨mb, h1, h2⟩ := I.mod.blt
  exact Calls.Name_function_global I.ok.kind hg (Calls.loadGlobal_builtin (by rw [I.ok.glob]; exact I.mod.glob.keeps I.bk) hm (by rw [I.ok.blt]; exact h1.keeps I.bk) ((h2 x hn).trans hv) h) hd
/-- a module's constant, a class, a function, as a value -/
theorem pe_glob {x : Str} {v : V} {u : Value} {pos : Pos} (hg : Gl X x) (hm : X.mg x = some u) (r : RelV v u) (hd : (x == ("__debug__" : Str)) = false := by decide) : PE X (.Name x pos) (tC v) :=
  fun _ _ _ H _ I h => ld_glob I hg hm ⟨v, H, I, r, h⟩ hd
theorem pe_bltn {x : Str} {v : V} {u : Value} {pos : Pos} (hg : Gl X x) (hm : X.mg x = none) (hv : bootBuiltins x = some u) (r : RelV v u) (hn : x ≠ "__name__" := by decide) (hd : (x == ("__debug__" : Str)) = false := by decide) : PE X (.Name x pos) (tC v) :=
  fun _ _ _ H _ I h => ld_blt I hg hm hv ⟨v, H, I, r, h⟩ hn hd

/-! ### arithmetic -/
/-- two ints -/
def t2I (ta tb : TE) (k : Int → Int → Hp → Prop) : St → Hp → Prop := fun σ H => ta σ H fun x H1 => tb σ H1 fun y H2 => ∃ i j, x = .int i ∧ y = .int j ∧ k i j H2
def tAdd (ta tb : TE) : TE := fun σ H Q => t2I ta tb (fun i j H2 => Q (.int (i + j)) H2) σ H
def tSub (ta tb : TE) : TE := fun σ H Q => t2I ta tb (fun i j H2 => Q (.int (i - j)) H2) σ H
/-- the left factor below 2^64 -/
def tMul (ta tb : TE) : TE := fun σ H Q => t2I ta tb (fun i j H2 => (-(2 ^ 64) < i ∧ i < 2 ^ 64) ∧ Q (.int (i * j)) H2) σ H
variable {a b : Expr} {ta tb : TE} {pos : Pos}
/-! ### comparisons -/
def PC (X : Cx) (op : CmpOp) (a b : Expr) (t : TE) : Prop :=
  ∀ (pins : List (Addr × Obj)) (s : Shared) (σ : St) (H : Hp) (Q : VK), Inv X pins σ H s → t σ H Q →
    wpAny (model X.prog X.w) X.A (eval a X.env) (fun v s₁ => wpAny (model X.prog X.w) X.A (eval b X.env) (fun u s₂ => wpAny (model X.prog X.w) X.A (compareOp op v u) (EP X pins σ Q) X.xe s₂) X.xe s₁) X.xe s
def tCmp (p : Int → Int → Bool) (ta tb : TE) : TE := fun σ H Q => t2I ta tb (fun i j H2 => Q (.bl (p i j)) H2) σ H
abbrev tLt : TE → TE → TE := tCmp fun i j => decide (i < j)
abbrev tLe : TE → TE → TE := tCmp fun i j => decide (i ≤ j)
abbrev tGt : TE → TE → TE := tCmp fun i j => decide (j < i)
abbrev tGe : TE → TE → TE := tCmp fun i j => decide (j ≤ i)
abbrev tEqI : TE → TE → TE := tCmp fun i j => decide (i = j)
abbrev tNeI : TE → TE → TE := tCmp fun i j => !decide (i = j)
/-- is None -/
def tIsN (ta : TE) : TE := fun σ H Q => ta σ H fun x H1 => Q (.bl (decide (x = .non))) H1
def tNotN (ta : TE) : TE := fun σ H Q => ta σ H fun x H1 => Q (.bl (!decide (x = .non))) H1
/-- a comparison as a value, as a test -/
def tB (t : TE) : TT := fun σ H Q => t σ H fun x H1 => ∃ c, x = .bl c ∧ Q c H1
theorem pt_cmp {op : CmpOp} {t : TE} (h : PC X op a b t) (h1 : behindInMarks op b = false := by first | exact nobehind _ (by decide) (by decide) | rfl) : PT X (.Compare a [op] [b] pos) (tB t) := by
  intro pins s σ H Q I hw
  refine wpAny_isTrue_Compare1 (thn (h pins s σ H _ I hw) fun v s1 h1 => thn h1 fun u s2 h2 => thn h2 fun c s3 ⟨x, H1, I1, r1, q1⟩ => ?_) h1
  obtain ⟨d, rfl, q⟩ := q1
  cases r1
  exact wpAny_truthy_bool ⟨H1, I1, q⟩
/-- an expression whose value is a bool, as a test -/
theorem pt_val {e : Expr} {t : TE} (h : PE X e t) (he : ∀ whole, isTrue e X.env whole = (do let v ← whole; standAt e.pos; holding [v] (truthy v)) := by intro _; rfl) : PT X e (tB t) := by
  intro pins s σ H Q I hw
  refine isTrue_plain (thn (h pins s σ H _ I hw) fun v s1 ⟨x, H1, I1, r1, q1⟩ => ?_) (he _)
  obtain ⟨d, rfl, q⟩ := q1
  cases r1
  exact wpAny_truthy_bool ⟨H1, I1, q⟩

/-! ### and, or, not -/
variable {tA tB' : TT} {rest : List Expr}
def tAnd (t u : TT) : TT := fun σ H Q => t σ H fun c H1 => if c = true then u σ H1 Q else Q false H1
def tOr (t u : TT) : TT := fun σ H Q => t σ H fun c H1 => if c = true then Q true H1 else u σ H1 Q
def tNot (t : TT) : TT := fun σ H Q => t σ H fun c H1 => Q (!c) H1
theorem pw_and1 (ha : PT X a tA) : PW X (.BoolOp .And [a] pos) tA := by
  intro wh pins s σ H Q I h
  refine isTrue_and (thn (ha pins s σ H Q I h) fun c s1 e => ?_)
  cases c with
  | true => exact isTrue_and_nil e
  | false => exact e
theorem pw_or1 (ha : PT X a tA) : PW X (.BoolOp .Or [a] pos) tA := by
  intro wh pins s σ H Q I h
  refine isTrue_or (thn (ha pins s σ H Q I h) fun c s1 e => ?_)
  cases c with
  | false => exact isTrue_or_nil e
  | true => exact e
theorem pw_and (ha : PT X a tA) (hb : PW X (.BoolOp .And (b :: rest) pos) tB') : PW X (.BoolOp .And (a :: b :: rest) pos) (tAnd tA tB') := by
  intro wh pins s σ H Q I h
  refine isTrue_and (thn (ha pins s σ H _ I h) fun c s1 ⟨H1, I1, q1⟩ => ?_)
  cases c with
  | true => exact hb wh pins s1 σ H1 Q I1 q1
  | false => exact ⟨H1, I1, q1⟩
theorem pw_or (ha : PT X a tA) (hb : PW X (.BoolOp .Or (b :: rest) pos) tB') : PW X (.BoolOp .Or (a :: b :: rest) pos) (tOr tA tB') := by
  intro wh pins s σ H Q I h
  refine isTrue_or (thn (ha pins s σ H _ I h) fun c s1 ⟨H1, I1, q1⟩ => ?_)
  cases c with
  | true => exact ⟨H1, I1, q1⟩
  | false => exact hb wh pins s1 σ H1 Q I1 q1
theorem pt_not (ha : PT X a tA) : PT X (.UnaryOp .Not a pos) (tNot tA) := by
  intro pins s σ H Q I h
  exact isTrue_not (ha pins s σ H (fun c H1 => Q (!c) H1) I h)
/-- .. as values (bools) -/
def tAndV (ta tb : TE) : TE := fun σ H Q => ta σ H fun x H1 => ∃ c, x = .bl c ∧ if c = true then tb σ H1 Q else Q (.bl false) H1
def tOrV (ta tb : TE) : TE := fun σ H Q => ta σ H fun x H1 => ∃ c, x = .bl c ∧ if c = true then Q (.bl true) H1 else tb σ H1 Q
def tNotV (ta : TE) : TE := fun σ H Q => ta σ H fun x H1 => ∃ c, x = .bl c ∧ Q (.bl (!c)) H1
theorem pe_one {op} {t : TE} (h : PE X a t) : PE X (.BoolOp op [a] pos) t := fun pins s σ H Q I hw => BoolOp_one (h pins s σ H Q I hw)
theorem pe_and (ha : PE X a ta) (hb : PE X (.BoolOp .And (b :: rest) pos) tb) : PE X (.BoolOp .And (a :: b :: rest) pos) (tAndV ta tb) := by
  intro pins s σ H Q I h
  refine BoolOp_and (thn (ha pins s σ H _ I h) fun v s1 ⟨x, H1, I1, r1, q1⟩ => ?_)
  obtain ⟨c, rfl, q1⟩ := q1
  cases r1
  refine wpAny_truthy_bool ?_
  cases c with
  | true => exact hb pins s1 σ H1 Q I1 q1
  | false => exact ⟨.bl false, H1, I1, rfl, q1⟩
theorem pe_or (ha : PE X a ta) (hb : PE X (.BoolOp .Or (b :: rest) pos) tb) : PE X (.BoolOp .Or (a :: b :: rest) pos) (tOrV ta tb) := by
  intro pins s σ H Q I h
  refine BoolOp_or (thn (ha pins s σ H _ I h) fun v s1 ⟨x, H1, I1, r1, q1⟩ => ?_)
  obtain ⟨c, rfl, q1⟩ := q1
  cases r1
  refine wpAny_truthy_bool ?_
  cases c with
  | false => exact hb pins s1 σ H1 Q I1 q1
  | true => exact ⟨.bl true, H1, I1, rfl, q1⟩
theorem pe_not (ha : PE X a ta) : PE X (.UnaryOp .Not a pos) (tNotV ta) := by
  intro pins s σ H Q I h
  refine UnaryOp_ (thn (ha pins s σ H _ I h) fun v s1 ⟨x, H1, I1, r1, q1⟩ => ?_)
  obtain ⟨c, rfl, q1⟩ := q1
  cases r1
  exact not_of (wpAny_truthy_bool ⟨.bl (!c), H1, I1, rfl, q1⟩)
/-- a if t else b -/
def tIf (t : TT) (ta tb : TE) : TE := fun σ H Q => t σ H fun c H1 => if c = true then ta σ H1 Q else tb σ H1 Q
theorem pe_ifExp {c : Expr} (hc : PT X c tA) (ha : PE X a ta) (hb : PE X b tb) : PE X (.IfExp c a b pos) (tIf tA ta tb) := by
  intro pins s σ H Q I h
  refine wpAny_IfExp (thn (hc pins s σ H _ I h) fun d s1 ⟨H1, I1, q1⟩ => ?_)
  cases d with
  | true => exact ha pins s1 σ H1 Q I1 q1
  | false => exact hb pins s1 σ H1 Q I1 q1
end
end L2

namespace L2
open PySem PySem.Spec PyProof.Rows

/-! ### a list, a tuple that is read: tracked, frozen, or an object of the module -/
def SqL (K : PySem.W.Frag) (H : Hp) (a : Addr) (xs : List V) : Prop :=
  Rd H a (.lst xs) ∨
    ∃ (o : Obj) (its : Array Value) (n : Nat), K.lookup a = some o ∧ o.cls = .type "list" ∧ o.dict = none ∧ o.data = .seq its n ∧ its.size ≤ sizeLine ∧ Vals xs its.toList
def SqT (K : PySem.W.Frag) (H : Hp) (a : Addr) (xs : List V) : Prop :=
  Rd H a (.tup xs) ∨
    ∃ (o : Obj) (its : Array Value) (n : Nat), K.lookup a = some o ∧ o.cls = .type "tuple" ∧ o.data = .seq its n ∧ its.size ≤ sizeLine ∧ Vals xs its.toList
def absV : Value → Option V
  | .none => some .non
  | .bool b => some (.bl b)
  | .int i _ => some (.int i)
  | .str x _ => some (.str x)
  | .bytes b _ => some (.byt b)
  | .float b _ => some (.flt b)
  | .ref a => some (.ref a)
  | .type n => some (.ty n)
  | _ => none
theorem RelV.abs {x : V} {u : Value} (r : RelV x u) : absV u = some x := by
  cases x with
  | non => cases r; rfl
  | bl _ => cases r; rfl
  | int _ => obtain ⟨t, rfl⟩ := r; rfl
  | str _ => obtain ⟨t, rfl⟩ := r; rfl
  | byt _ => obtain ⟨t, rfl⟩ := r; rfl
  | flt _ => obtain ⟨t, rfl⟩ := r; rfl
  | ref _ => cases r; rfl
  | ty _ => cases r; rfl
theorem RelV.inj {x y : V} {u : Value} (r : RelV x u) (q : RelV y u) : x = y := Option.some.inj (r.abs.symm.trans q.abs)
theorem Vals.inj : ∀ {xs ys : List V} {us : List Value}, Vals xs us → Vals ys us → xs = ys
  | _, _, _, .nil, .nil => rfl
  | _, _, _, .cons r t, .cons r' t' => by rw [r.inj r', Vals.inj t t']
section
variable {X : Cx} {pins : List (Addr × Obj)} {σ : St} {H : Hp} {s : Shared} {a : Addr} {xs ys : List V}
theorem SqL.of {K : PySem.W.Frag} (h : H a = some (.lst xs)) : SqL K H a xs := .inl (.inl h)
theorem SqT.of {K : PySem.W.Frag} (h : H a = some (.tup xs)) : SqT K H a xs := .inl (.inl h)
theorem Inv.list (I : Inv X pins σ H s) (h : SqL X.K H a xs) : ∃ its : List Value, Vals xs its ∧ PlainL s.heap a its.toArray ∧ xs.length ≤ sizeLine := by
  rcases h with h | ⟨o, its, n, hk, hc, hd, hs, hz, r⟩
  · obtain ⟨z, its, n, r, e⟩ := h.ok I.hok
    exact ⟨its, r, ⟨_, n, e, rfl, rfl, rfl⟩, z⟩
  · refine ⟨its.toList, r, ⟨o, n, I.kIn a o hk, hc, hd, by simpa using hs⟩, ?_⟩
    have e := r.length
    simp only [Array.length_toList] at e
    omega
theorem Inv.tuple (I : Inv X pins σ H s) (h : SqT X.K H a xs) : ∃ its : List Value, Vals xs its ∧ IsTup s.heap a its.toArray ∧ xs.length ≤ sizeLine := by
  rcases h with h | ⟨o, its, n, hk, hc, hs, hz, r⟩
  · obtain ⟨z, its, r, p⟩ := h.ok I.hok
    exact ⟨its, r, p, z⟩
  · refine ⟨its.toList, r, ⟨o, I.kIn a o hk, hc, n, by simpa using hs⟩, ?_⟩
    have e := r.length
    simp only [Array.length_toList] at e
    omega
theorem Inv.list_inj (I : Inv X pins σ H s) (h : SqL X.K H a xs) (h' : SqL X.K H a ys) : xs = ys := by
  obtain ⟨its, r, ⟨o, n, e, _, _, d⟩, _⟩ := I.list h
  obtain ⟨its', r', ⟨o', n', e', _, _, d'⟩, _⟩ := I.list h'
  rw [e] at e'; cases e'
  rw [d] at d'
  injection d' with d1 _
  have : its = its' := by simpa using congrArg Array.toList d1
  subst this
  exact r.inj r'
theorem Inv.tuple_inj (I : Inv X pins σ H s) (h : SqT X.K H a xs) (h' : SqT X.K H a ys) : xs = ys := by
  obtain ⟨its, r, ⟨o, e, _, n, d⟩, _⟩ := I.tuple h
  obtain ⟨its', r', ⟨o', e', _, n', d'⟩, _⟩ := I.tuple h'
  rw [e] at e'; cases e'
  rw [d] at d'
  injection d' with d1 _
  have : its = its' := by simpa using congrArg Array.toList d1
  subst this
  exact r.inj r'
end

/-! ### another wish about exceptions -/
abbrev Cx.wish (X : Cx) (E : Value → Shared → Prop) : Cx := { X with xe := E }
/-- no exception leaves -/
abbrev Cx.nox (X : Cx) : Cx := X.wish fun _ _ => False
theorem Cx.Ok.wish {X : Cx} (ok : X.Ok) (E : Value → Shared → Prop) : (X.wish E).Ok :=
  ⟨ok.mod, ok.kind, ok.glob, ok.blt, ok.above, ok.inj, ok.has, ok.cab, ok.hd, ok.frames, ok.stk, ok.exf, ok.bs, ok.bsz, ok.noex, ok.exfs, ok.funs, ok.frf⟩
theorem Cx.Ok.unwish {X : Cx} {E : Value → Shared → Prop} (ok : (X.wish E).Ok) : X.Ok :=
  ⟨ok.mod, ok.kind, ok.glob, ok.blt, ok.above, ok.inj, ok.has, ok.cab, ok.hd, ok.frames, ok.stk, ok.exf, ok.bs, ok.bsz, ok.noex, ok.exfs, ok.funs, ok.frf⟩
section
variable {X : Cx} {pins : List (Addr × Obj)} {σ : St} {H : Hp} {s : Shared} {E : Value → Shared → Prop}
theorem Inv.wish (I : Inv X pins σ H s) (E : Value → Shared → Prop) : Inv (X.wish E) pins σ H s := ⟨I.ok.wish E, I.os, I.bare, I.base, I.loc, I.cell, I.free, I.freeC, I.pin, I.hok, I.len⟩
theorem Inv.unwish (I : Inv (X.wish E) pins σ H s) : Inv X pins σ H s := ⟨I.ok.unwish, I.os, I.bare, I.base, I.loc, I.cell, I.free, I.freeC, I.pin, I.hok, I.len⟩
theorem SP.unwish {D : Ends} {f : Flow} {s' : Shared} (h : SP (X.wish E) pins D f s') : SP X pins D f s' := by
  cases f with
  | next => obtain ⟨σ', H', I, q⟩ := h; exact ⟨σ', H', I.unwish, q⟩
  | brk => obtain ⟨σ', H', I, q⟩ := h; exact ⟨σ', H', I.unwish, q⟩
  | cont => obtain ⟨σ', H', I, q⟩ := h; exact ⟨σ', H', I.unwish, q⟩
  | ret u => obtain ⟨v, σ', H', I, r, q⟩ := h; exact ⟨v, σ', H', I.unwish, r, q⟩
theorem PSs.nox {st : List Stmt} {t : TS} (h : PSs X.nox st t) : PSs X st t := fun pins s σ H D I hw =>
  wpAny_mono (h pins s σ H D (I.wish _) hw) (fun _ _ q => q.unwish) fun _ _ z => False.elim z
end

/-! ### blocks and small statements -/
section
variable {X : Cx} {st : Stmt} {rest : List Stmt} {t u : TS} {e : Expr} {te : TE} {pos : Pos}
def tNext : TS := fun D σ H => D.nx σ H
def tSeq (t u : TS) : TS := fun D σ H => t { D with nx := u D } σ H
theorem pss_nil : PSs X [] tNext := fun _ _ σ H _ I h => wpAny_execs_nil ⟨σ, H, I, h⟩
theorem pss_cons (h1 : PS X st t) (h2 : PSs X rest u) : PSs X (st :: rest) (tSeq t u) := by
  intro pins s σ H D I h
  refine wpAny_execs_cons (thn (h1 pins s σ H { D with nx := u D } I h) fun f s1 q => ?_)
  cases f with
  | next =>
    obtain ⟨σ', H', I', q⟩ := q
    exact h2 pins s1 σ' H' D I' q
  | ret v => exact q
  | brk => exact q
  | cont => exact q
theorem pss_one (h1 : PS X st t) : PSs X [st] t := by
  intro pins s σ H D I h
  refine wpAny_execs_cons (thn (h1 pins s σ H D I h) fun f s1 q => ?_)
  cases f with
  | next => exact wpAny_execs_nil q
  | ret v => exact q
  | brk => exact q
  | cont => exact q
def tBreak : TS := fun D σ H => D.bk σ H
def tCont : TS := fun D σ H => D.ct σ H
/-- in a def's body nothing is shown -/
theorem Inv.quiet {pins : List (Addr × Obj)} {σ : St} {H : Hp} {s : Shared} (I : Inv X pins σ H s) : interactive X.env = false := by simp [interactive, I.ok.kind]
/-- an expression whose value is dropped -/
def tDrop (te : TE) : TS := fun D σ H => te σ H fun _ H1 => D.nx σ H1
theorem ps_expr (he : PE X e te) (hs : swapsWith e none pos.line X.env = pure false := by rfl) : PS X (.Expr e pos) (tDrop te) := by
  intro pins s σ H D I h
  exact wpAny_Expr_any (thn (he pins s σ H _ I h) fun v s1 ⟨x, H1, I1, r1, q1⟩ => ⟨σ, H1, I1, q1⟩) I.quiet hs
def tRet (te : TE) : TS := fun D σ H => te σ H D.rt
theorem ps_ret (he : PE X e te) : PS X (.Return (some e) pos) (tRet te) := by
  intro pins s σ H D I h
  exact wpAny_Return_some (thn (he pins s σ H _ I h) fun v s1 ⟨x, H1, I1, r1, q1⟩ => ⟨x, σ, H1, I1, r1, q1⟩)
def tRetN : TS := fun D _ H => D.rt .non H
def tIfS (c : TT) (t u : TS) : TS := fun D σ H => c σ H fun b H1 => if b = true then t D σ H1 else u D σ H1
theorem ps_if {c : Expr} {a b : List Stmt} {tc : TT} (hc : PT X c tc) (ha : PSs X a t) (hb : PSs X b u) : PS X (.If c a b pos) (tIfS tc t u) := by
  intro pins s σ H D I h
  refine wpAny_If (thn (hc pins s σ H _ I h) fun d s1 ⟨H1, I1, q1⟩ => ?_)
  cases d with
  | true => exact ha pins s1 σ H1 D I1 q1
  | false => exact hb pins s1 σ H1 D I1 q1
/-- code that the proof never comes to -/
def tNever : TS := fun _ _ _ => False
end

/-! ### targets -/
abbrev TG := V → St → Hp → (St → Hp → Prop) → Prop
abbrev TGs := List V → St → Hp → (St → Hp → Prop) → Prop
def PG (X : Cx) (target : Expr) (t : TG) : Prop :=
  ∀ (pins : List (Addr × Obj)) (s : Shared) (σ : St) (H : Hp) (v : V) (u : Value) (Q : St → Hp → Prop), Inv X pins σ H s → RelV v u → t v σ H Q →
    wpAny (model X.prog X.w) X.A (assign target X.env u) (fun _ s' => ∃ σ' H', Inv X pins σ' H' s' ∧ Q σ' H') X.xe s
/-- several targets, one after another -/
def PGs (X : Cx) (ts : List Expr) (t : TGs) : Prop :=
  ∀ (pins : List (Addr × Obj)) (s : Shared) (σ : St) (H : Hp) (vs : List V) (us : List Value) (Q : St → Hp → Prop), Inv X pins σ H s → Vals vs us → t vs σ H Q →
    wpAny (model X.prog X.w) X.A (assignInOrder ((assignEach ts X.env).map (·.2)) us) (fun _ s' => ∃ σ' H', Inv X pins σ' H' s' ∧ Q σ' H') X.xe s
/-- o[i] = v, by values -/
abbrev TSet := V → V → V → Hp → (Hp → Prop) → Prop
def PSet (X : Cx) (t : TSet) : Prop :=
  ∀ (pins : List (Addr × Obj)) (s : Shared) (σ : St) (H : Hp) (o i v : V) (ov iv u : Value) (Q : Hp → Prop), Inv X pins σ H s → RelV o ov → RelV i iv → RelV v u → t o i v H Q →
    wpAny (model X.prog X.w) X.A (setItem ov iv u) (fun _ s' => ∃ H', Inv X pins σ H' s' ∧ Q H') X.xe s
/-- a op= b, by values -/
abbrev TIp := V → V → Hp → VK → Prop
def PIp (X : Cx) (op : Operator) (t : TIp) : Prop :=
  ∀ (pins : List (Addr × Obj)) (s : Shared) (σ : St) (H : Hp) (x y : V) (v u : Value) (Q : VK), Inv X pins σ H s → RelV x v → RelV y u → t x y H Q →
    wpAny (model X.prog X.w) X.A (inplaceOp op v u) (EP X pins σ Q) X.xe s
section
variable {X : Cx} {pos : Pos}
def gName (i : Nat) : TG := fun v σ H Q => Q (σ.set i (some v)) H
theorem pg_name {i : Nat} {x : Str} (hN : X.N.Nodup) (hi : X.N[i]? = some x) (hx : Loc X.env.scope x) (hf : X.fn x = true ∨ X.env.scope.names.lookup x = some .local := by first | exact .inl rfl | exact .inr rfl | assumption) : PG X (.Name x pos) (gName i) := by
  intro pins s σ H v u Q I r h
  exact wpAny_assign_Name (store_ok I hN hi hx r (fun s' I' => ⟨_, H, I', h⟩) hf)
def gNil : TGs := fun vs σ H Q => vs = [] ∧ Q σ H
def gCons (t : TG) (u : TGs) : TGs := fun vs σ H Q => ∃ v r, vs = v :: r ∧ t v σ H fun σ' H' => u r σ' H' Q
theorem pgs_nil : PGs X [] gNil := by
  intro pins s σ H vs us Q I r h
  obtain ⟨e, h⟩ := h
  subst e
  cases r
  exact assignInOrder_nil ⟨σ, H, I, h⟩
theorem pgs_cons {e : Expr} {es : List Expr} {t : TG} {u : TGs} (h1 : PG X e t) (h2 : PGs X es u)
    (hs : (assignEach (e :: es) X.env).map (·.2) = assign e X.env :: (assignEach es X.env).map (·.2) := by rfl) : PGs X (e :: es) (gCons t u) := by
  intro pins s σ H vs us Q I r h
  obtain ⟨v, vr, e1, h⟩ := h
  subst e1
  cases r with
  | cons r rr =>
    rw [hs]
    refine assignInOrder_cons (thn (h1 pins s σ H _ _ _ I r h) fun _ s1 ⟨σ1, H1, I1, q1⟩ => ?_)
    exact h2 pins s1 σ1 H1 _ _ Q I1 rr q1
/-- (a, b, ..) = a tuple of that length -/
def gTup (K : PySem.W.Frag) (n : Nat) (t : TGs) : TG := fun v σ H Q => ∃ a xs, v = .ref a ∧ SqT K H a xs ∧ xs.length = n ∧ t xs σ H Q
theorem pg_tup {es : List Expr} {k : Nat} {t : TGs} {n : Nat} (hc : X.calm = true) (h : PGs X es t)
    (hn : (assignEach es X.env).length = n := by rfl) (hst : (assignEach es X.env).findIdx? (·.1) = none := by rfl) : PG X (.Tuple es k pos) (gTup X.K n t) := by
  intro pins s σ H v u Q I r hw
  obtain ⟨a, xs, e1, hq, hl, hw⟩ := hw
  subst e1
  cases r
  obtain ⟨its, rv, ht, hz⟩ := I.tuple hq
  refine assign_Tuple_tuple (I.ok.hd hc) ht (by simp [hn, ← hl, rv.length]) hst fun h' hx => ?_
  have I1 : Inv X pins σ H { s with heap := h' } := I.kept (t' := s.toks) fun b o e => hx b o (Nat.ne_of_lt (Heap.lt_size e)) e
  exact h pins _ σ H xs _ Q I1 (by simpa using rv) hw
/-- o[i] = .. -/
def gSub (to ti : TE) (t : TSet) : TG := fun v σ H Q => to σ H fun o H1 => ti σ H1 fun i H2 => t o i v H2 fun H3 => Q σ H3
theorem pg_sub {o i : Expr} {to ti : TE} {t : TSet} (ho : PE X o to) (hi : PE X i ti) (hs : PSet X t)
    (ha : ∀ v, assign (.Subscript o i pos) X.env v = (do
      let ov ← holding [v] (eval o X.env)
      let iv ← holding [v, ov] (eval i X.env)
      standAt pos
      holding [v, ov, iv] (setItem ov iv v)
      release [v, ov, iv] []) := by intro _; rfl) : PG X (.Subscript o i pos) (gSub to ti t) := by
  intro pins s σ H v u Q I r h
  rw [ha]
  refine wpAny_bind (wpAny_holding (thn (ho pins s σ H _ I h) fun ov s1 ⟨x, H1, I1, r1, q1⟩ => ?_))
  refine wpAny_bind (wpAny_holding (thn (hi pins s1 σ H1 _ I1 q1) fun iv s2 ⟨y, H2, I2, r2, q2⟩ => ?_))
  refine wpAny_bind (wpAny_standAt (wpAny_bind (wpAny_holding (thn (hs pins s2 σ H2 x y v ov iv u _ I2 r1 r2 r q2) fun _ s3 ⟨H3, I3, q3⟩ => ?_))))
  exact wpAny_release ⟨σ, H3, I3, q3⟩
/-- target = value -/
def tAsg (te : TE) (g : TG) : TS := fun D σ H => te σ H fun x H1 => g x σ H1 D.nx
theorem ps_asg {tg e : Expr} {te : TE} {g : TG} (he : PE X e te) (hg : PG X tg g) (hs : swapsWithSole [tg] e pos.line X.env = pure false := by rfl) (hw : swappedStores [tg] e X.env = pure none := by rfl)
    (h1 : (assignEach [tg] X.env).map (·.2) = [assign tg X.env] := by rfl) : PS X (.Assign [tg] e pos) (tAsg te g) := by
  intro pins s σ H D I h
  refine wpAny_Assign_stores (thn (he pins s σ H _ I h) fun v s1 ⟨x, H1, I1, r1, q1⟩ => ?_) hs hw
  rw [h1]
  exact thn (hg pins s1 σ H1 x v _ I1 r1 q1) fun _ s2 q => q
/-- name = value -/
theorem ps_set {i : Nat} {x : Str} {e : Expr} {te : TE} {pos' : Pos} (hN : X.N.Nodup) (hi : X.N[i]? = some x) (hx : Loc X.env.scope x) (he : PE X e te) (hs : swapsWith e (some (.Name x pos')) pos.line X.env = pure false := by rfl) (hf : X.fn x = true ∨ X.env.scope.names.lookup x = some .local := by first | exact .inl rfl | exact .inr rfl | assumption) :
    PS X (.Assign [.Name x pos'] e pos) (tAsg te (gName i)) := by
  intro pins s σ H D I h
  refine wpAny_Assign_Name (thn (he pins s σ H _ I h) fun v s1 ⟨y, H1, I1, r1, q1⟩ => ?_) hs
  exact store_ok I1 hN hi hx r1 (fun s2 I2 => ⟨_, H1, I2, q1⟩) hf
/-- a, b = x, y with plain local names: stored from the right; the pair itself is not tracked (the opening rows as in PyProof/Rows/TupAssign.lean:23) -/
def tPar (i j : Nat) (ta : TA) : TS := fun D σ H => ta σ H fun vs H1 => ∃ v w, vs = [v, w] ∧ D.nx ((σ.set i (some v)).set j (some w)) H1
theorem ps_par {i j : Nat} {x y : Str} {a b : Expr} {ta : TA} {px py pt : Pos} {kt k2 pt2} (hc : X.calm = true) (hN : X.N.Nodup) (hi : X.N[i]? = some x) (hj : X.N[j]? = some y) (hij : i ≠ j)
    (hx : X.env.scope.names.lookup x = some .local) (hy : X.env.scope.names.lookup y = some .local) (ha : PA X [a, b] ta)
    (hw : swappedStores [.Tuple [.Name x px, .Name y py] kt pt] (.Tuple [a, b] k2 pt2) X.env = pure (some [x, y]))
    (hs : swapsWithSole [.Tuple [.Name x px, .Name y py] kt pt] (.Tuple [a, b] k2 pt2) pos.line X.env = pure false := by rfl) :
    PS X (.Assign [.Tuple [.Name x px, .Name y py] kt pt] (.Tuple [a, b] k2 pt2) pos) (tPar i j ta) := by
  intro pins s σ H D I h
  rw [exec_Assign_arm]
  refine wpAny_bind (wpAny_standAt ?_)
  rw [hs]
  refine wpAny_bind (wpAny_pure ?_)
  rw [if_neg (by decide)]
  refine wpAny_bind (Tuple_ (thn (ha _ pins s σ H _ I h) fun us s1 ⟨vs, H1, I1, r1, q1⟩ => ?_))
  obtain ⟨v, w, e1, q1⟩ := q1
  subst e1
  obtain ⟨u1, u2, rfl, rv, rw'⟩ : ∃ u1 u2, us = [u1, u2] ∧ RelV v u1 ∧ RelV w u2 := by
    cases r1 with
    | cons p q =>
      cases q with
      | cons p' q' =>
        cases q'
        exact ⟨_, _, rfl, p, p'⟩
  refine wpAny_newObj_type ?_ (by show 2 ≤ sizeLine; decide)
  have I2 : Inv X pins σ H1 { s1 with heap := s1.heap.push { cls := .type "tuple", data := .seq [u1, u2].toArray } } := I1.kept (t' := s1.toks) fun b o e => Heap.get?_push_of_some _ e
  rw [hw]
  refine wpAny_bind (wpAny_pure ?_)
  show wpAny (model X.prog X.w) X.A (do rule "assign.swapped-stores"; let items ← unpackItems (.ref s1.heap.objs.size) 2 none; assignInOrder [fun v => bindName X.env y v, fun v => bindName X.env x v] items.reverse; pure Flow.next) _ _ _
  refine wpAny_bind (wpAny_rule (wpAny_bind (unpackItems_tuple (items := #[u1, u2]) (I.ok.hd hc) (IsTup.new s1.heap _) fun h' hx' => ?_)))
  have I3 := I2.kept (h' := h') (t' := s1.toks) fun b o e => hx' b o (Nat.ne_of_lt (Heap.lt_size e)) e
  show wpAny _ _ (assignInOrder [fun v => bindName X.env y v, fun v => bindName X.env x v] [u2, u1] >>= fun _ => pure Flow.next) _ _ _
  refine wpAny_bind (assignInOrder_cons (wpAny_bindName (store_ok I3 hN hj (.inl hy) rw' (fun s2 I4 => ?_) (.inr hy))))
  refine assignInOrder_cons (wpAny_bindName (store_ok I4 hN hi (.inl hx) rv (fun s3 I5 => assignInOrder_nil (wpAny_pure ?_)) (.inr hx)))
  rw [List.set_comm _ _ (Ne.symm hij)] at I5
  exact ⟨_, H1, I5, q1⟩
/-- name op= e -/
def tAug (i : Nat) (te : TE) (ti : TIp) : TS := fun D σ H => ∃ x, σ[i]? = some (some x) ∧ te σ H fun y H1 => ti x y H1 fun z H2 => D.nx (σ.set i (some z)) H2
/-- o[i] op= e -/
def tAugS (to ti te : TE) (tget : V → V → Hp → VK → Prop) (tip : TIp) (tset : TSet) : TS := fun D σ H => to σ H fun o H1 => ti σ H1 fun i H2 => tget o i H2 fun x H3 => te σ H3 fun y H4 => tip x y H4 fun z H5 => tset o i z H5 fun H6 => D.nx σ H6
/-- o[i], by values -/
def PGet (X : Cx) (t : V → V → Hp → VK → Prop) : Prop :=
  ∀ (pins : List (Addr × Obj)) (s : Shared) (σ : St) (H : Hp) (o i : V) (ov iv : Value) (Q : VK), Inv X pins σ H s → RelV o ov → RelV i iv → t o i H Q →
    wpAny (model X.prog X.w) X.A (getItem ov iv) (EP X pins σ Q) X.xe s
/-- ints -/
def ipI (f : Int → Int → Int) : TIp := fun x y H Q => ∃ i j, x = .int i ∧ y = .int j ∧ Q (.int (f i j)) H
end

/-! ### while -/
section
variable {X : Cx} {pos : Pos}
/-- the invariant W with its measure -/
def tWhile (c : TT) (tb : TS) : TS := fun D σ H => ∃ W : Nat → St → Hp → Prop, (∃ m, W m σ H) ∧ ∀ m σ H, W m σ H →
  c σ H fun b H1 => if b = true then ∃ N : St → Hp → Prop, (∀ σ' H', N σ' H' → ∃ m', m' < m ∧ W m' σ' H') ∧ tb { D with nx := N, ct := N, bk := D.nx } σ H1 else D.nx σ H1
theorem ps_while {c : Expr} {body : List Stmt} {tc : TT} {tb : TS} (hp : PassesOwn (model X.prog X.w) X.A X.env X.xe) (hc : PT X c tc) (hb : PSs X body tb) : PS X (.While c body [] pos) (tWhile tc tb) := by
  intro pins s σ H D I h
  obtain ⟨W, ⟨m0, w0⟩, turn⟩ := h
  refine wpAny_While (codeAny_whileLoop (fun n s' => ∃ σ' H', Inv X pins σ' H' s' ∧ W n σ' H') ?_ m0 ⟨σ, H, I, w0⟩)
  rintro n s1 ⟨σ1, H1, I1, w1⟩
  refine wpAny_passesOwn hp (thn (hc pins s1 σ1 H1 _ I1 (turn n σ1 H1 w1)) fun b s2 ⟨H2, I2, q2⟩ => ?_)
  cases b with
  | true =>
    obtain ⟨N, hN, q2⟩ := q2
    rw [if_pos rfl]
    refine wpAny_passesOwn hp (thn (hb pins s2 σ1 H2 _ I2 q2) fun f s3 q3 => ?_)
    cases f with
    | next =>
      obtain ⟨σ3, H3, I3, n3⟩ := q3
      obtain ⟨m', hm, w3⟩ := hN σ3 H3 n3
      exact ⟨m', hm, σ3, H3, I3, w3⟩
    | cont =>
      obtain ⟨σ3, H3, I3, n3⟩ := q3
      obtain ⟨m', hm, w3⟩ := hN σ3 H3 n3
      exact ⟨m', hm, σ3, H3, I3, w3⟩
    | brk => exact q3
    | ret v => exact q3
  | false =>
    rw [if_neg Bool.false_ne_true]
    exact wpAny_execs_nil ⟨σ1, H2, I2, q2⟩
end

/-! ### what a loop or a comprehension walks -/
/-- at turn i: it yields x (the heap may grow), or it stops -/
structure It where
  go : Nat → Hp → Prop
  yld : Nat → Hp → V → Hp → Prop
  stop : Nat → Hp → Prop
/-- the iterator's own objects may turn: they are not the frame's, not pinned, younger than the entry (or a comprehension's own) -/
def FpOk (X : Cx) (pins : List (Addr × Obj)) (H : Hp) (b : Addr) : Prop :=
  H b = none ∧ b ≠ X.env.locals ∧ b ∉ X.fs ∧ (b ∈ X.ex ∨ X.s₀.heap.objs.size ≤ b) ∧ (∀ x c, X.env.cells.lookup x = some c → c ≠ b) ∧ ∀ p ∈ X.pn ++ pins, p.1 ≠ b
theorem Inv.fpOk {X : Cx} {pins : List (Addr × Obj)} {σ : St} {H H' : Hp} {s : Shared} {b : Addr} (I : Inv X pins σ H s) (hb : s.heap.objs.size ≤ b) (hn : H' b = none) : FpOk X pins H' b := by
  refine ⟨hn, Nat.ne_of_gt (Nat.lt_of_lt_of_le I.lt hb), I.nofs hb, .inr (Nat.le_trans I.sz hb), fun x c e z => ?_, fun p hp z => ?_⟩
  · obtain ⟨v, q⟩ := I.cell x c e
    exact absurd (Nat.lt_of_lt_of_le q.lt (by rw [z]; exact hb)) (Nat.lt_irrefl _)
  · exact absurd (Nat.lt_of_lt_of_le (Heap.lt_size (I.pin p hp).1) (by rw [z]; exact hb)) (Nat.lt_irrefl _)
structure Turn (P : Program) (w : World) (K : PySem.W.Frag) (tg : Expr) (J : It) (fp : List Addr) (it : Addr) (tn : Nat → Heap → Prop) : Prop where
  mem : it ∈ fp
  obj : ∀ i h, tn i h → ∀ b ∈ fp, ∃ o, h.get? b = some o ∧ ∀ v, o.data ≠ .cell v
  keep : ∀ i h h', tn i h → (∀ b ∈ fp, ∀ o, h.get? b = some o → h'.get? b = some o) → tn i h'
  item : ∀ (X : Cx), X.prog = P → X.w = w → X.K = K → X.calm = true → ∀ (i : Nat) (pins : List (Addr × Obj)) (s : Shared) (σ : St) (H : Hp) (E : Value → Shared → Prop), Inv X pins σ H s → (∀ b ∈ fp, FpOk X pins H b) → tn i s.heap → J.go i H →
    wpAny (model P w) X.A (pyNext (.ref it)) (fun r s1 => ∃ u, r = some u ∧
      wpAny (model P w) X.A (letOwnedTupleGo tg (.ref it) u) (fun _ s2 => ∃ x H', Inv X pins σ H' s2 ∧ RelV x u ∧ J.yld i H x H' ∧ tn (i + 1) s2.heap ∧ ∀ b ∈ fp, H' b = none) E s1) E s
  done : ∀ (X : Cx), X.prog = P → X.w = w → X.K = K → X.calm = true → ∀ (i : Nat) (pins : List (Addr × Obj)) (s : Shared) (σ : St) (H : Hp) (E : Value → Shared → Prop), Inv X pins σ H s → (∀ b ∈ fp, FpOk X pins H b) → tn i s.heap → J.stop i H →
    wpAny (model P w) X.A (pyNext (.ref it)) (fun r s1 => r = none ∧ Inv X pins σ H s1) E s
  self : ∀ (A : Around) (i : Nat) (s : Shared) (Q : Value → Shared → Prop) (E : Value → Shared → Prop), tn i s.heap → Q (.ref it) s → wpAny (model P w) A (pyIter (.ref it)) Q E s
abbrev TI := St → Hp → (It → Hp → Prop) → Prop
/-- an iterator has come -/
def PIE (X : Cx) (pins : List (Addr × Obj)) (σ : St) (tg : Expr) (R : It → Hp → Prop) (itv : Value) (s2 : Shared) : Prop :=
  ∃ (it : Addr) (fp : List Addr) (tn : Nat → Heap → Prop) (J : It) (H' : Hp), itv = .ref it ∧ Inv X pins σ H' s2 ∧ Turn X.prog X.w X.K tg J fp it tn ∧ tn 0 s2.heap ∧ (∀ b ∈ fp, FpOk X pins H' b) ∧ R J H'
def PI (X : Cx) (tg iter : Expr) (wi : TI) : Prop :=
  ∀ (pins : List (Addr × Obj)) (s : Shared) (σ : St) (H : Hp) (R : It → Hp → Prop), Inv X pins σ H s → wi σ H R →
    wpAny (model X.prog X.w) X.A (eval iter X.env) (fun v s1 => wpAny (model X.prog X.w) X.A (pyIter v) (PIE X pins σ tg R) X.xe s1) X.xe s

/-- the step ahead of the store is nothing for an iterator that keeps no tuple -/
theorem go_of {M : Model} {A : Around} {E : Value → Shared → Prop} {s : Shared} {tg : Expr} {it : Addr} {u : Value} {o : Obj} {n : String} {vs : Array Value} {Q : Unit → Shared → Prop} (ho : s.heap.get? it = some o) (hc : o.cls = .type n) (hd : o.data = .fields vs)
    (hn : ["enumerate", "zip", "dict_itemiterator", "dict_reverseitemiterator", "odict_iterator", "itertools.zip_longest", "itertools.pairwise"].contains n = false) (hQ : Q () s) : wpAny M A (letOwnedTupleGo tg (.ref it) u) Q E s := by
  unfold letOwnedTupleGo
  cases tg <;> first
    | exact wpAny_pure hQ
    | (cases u <;> first
        | exact wpAny_pure hQ
        | (refine wpAny_bind (wpAny_load ho ?_)
           rw [hc, hd]
           show wpAny M A (if (["enumerate", "zip", "dict_itemiterator", "dict_reverseitemiterator", "odict_iterator", "itertools.zip_longest", "itertools.pairwise"].contains n && vs[0]? == some (rawInt _)) = true then _ else _) Q E s
           rw [if_neg (by intro h; rw [hn, Bool.false_and] at h; cases h)]
           exact wpAny_pure hQ))

/-- the list at a, as it stands at each turn (a loop may append to it) -/
def Itl (K : PySem.W.Frag) (a : Addr) : It :=
  ⟨fun i H => ∃ xs x, SqL K H a xs ∧ xs[i]? = some x, fun i H x H' => H' = H ∧ ∀ xs, SqL K H a xs → xs[i]? = some x, fun i H => ∃ xs, SqL K H a xs ∧ xs.length ≤ i⟩
def Itt (K : PySem.W.Frag) (a : Addr) : It :=
  ⟨fun i H => ∃ xs x, SqT K H a xs ∧ xs[i]? = some x, fun i H x H' => H' = H ∧ ∀ xs, SqT K H a xs → xs[i]? = some x, fun i H => ∃ xs, SqT K H a xs ∧ xs.length ≤ i⟩
/-- lo, lo + 1, .. (n of them) -/
def Itr (lo : Int) (n : Nat) : It := ⟨fun i _ => i < n, fun i H x H' => H' = H ∧ x = .int (lo + i), fun i _ => n ≤ i⟩
theorem turn_tuple {P : Program} {w : World} {K : PySem.W.Frag} {tg : Expr} (a it : Addr) : Turn P w K tg (Itt K a) [it] it (fun i h => h.IsTupleIter it a i) where
  mem := by simp
  obj := fun i h st b hb => by
    have e : b = it := by simpa using hb
    subst e
    obtain ⟨o, e, c, d⟩ := st
    exact ⟨o, e, fun v z => by rw [d] at z; cases z⟩
  keep := fun i h h' st k => st.at fun o e => k it (by simp) o e
  item := by
    intro X hP hw hK hc i pins s σ H E I hf st hg
    subst hP hw hK
    obtain ⟨xs, x, hq, hx⟩ := hg
    obtain ⟨its, rv, p, hz⟩ := I.tuple hq
    obtain ⟨u, hu, ru⟩ := rv.get hx
    obtain ⟨f0, f1, f2, f3, f4, f5⟩ := hf it (by simp)
    refine wpAny_pyNext_tuple_item st (show s.heap.IsTuple a its.toArray from p) (x := u) (by simpa using hu) fun h' st' sb => ?_
    have I1 : Inv X pins σ H { s with heap := h' } := I.turned (t' := s.toks) (fun b o hb e => (sb.2 b hb).trans e) f0 f1 f3 f4 f5
    obtain ⟨o, e, c, d⟩ := id st'
    exact ⟨u, rfl, go_of (s := { s with heap := h' }) e c d (by decide) ⟨x, H, I1, ru, ⟨rfl, fun ys hy => by rw [I.tuple_inj hy hq]; exact hx⟩, st', fun b hb => (hf b hb).1⟩⟩
  done := by
    intro X hP hw hK hc i pins s σ H E I hf st hg
    subst hP hw hK
    obtain ⟨xs, hq, hx⟩ := hg
    obtain ⟨its, rv, p, hz⟩ := I.tuple hq
    obtain ⟨f0, f1, f2, f3, f4, f5⟩ := hf it (by simp)
    have hl := rv.length
    exact wpAny_pyNext_tuple_end (I.ok.hd hc) st (show s.heap.IsTuple a its.toArray from p) (by simp; omega) fun h' eb => ⟨rfl, I.turned (t' := s.toks) (fun b o hb e => eb b o hb e) f0 f1 f3 f4 f5⟩
  self := fun _ _ _ _ _ st h => wpAny_pyIter_tupleiter st h
theorem turn_range {P : Program} {w : World} {K : PySem.W.Frag} {tg : Expr} (it : Addr) (lo : Int) (n : Nat) : Turn P w K tg (Itr lo n) [it] it (fun i h => IsRangeIter h it (lo + (i : Nat) * 1) ((n : Int) - (i : Nat)) 1) where
  mem := by simp
  obj := fun i h st b hb => by
    have e : b = it := by simpa using hb
    subst e
    exact ⟨_, st, fun v z => by
      have z' : Data.fields _ = Data.cell v := z
      cases z'⟩
  keep := fun i h h' st k => k it (by simp) _ st
  item := by
    intro X hP hw hK hc i pins s σ H E I hf st hg
    subst hP hw hK
    obtain ⟨f0, f1, f2, f3, f4, f5⟩ := hf it (by simp)
    have W := Walks.range (prog := X.prog) (w := X.w) (I.ok.hd hc) it lo 1 n
    refine W.item i s _ _ hg st fun v h' tk hv st' kk => ?_
    obtain ⟨t, rfl⟩ := hv
    have I1 : Inv X pins σ H { s with heap := h', toks := tk } := I.turned (fun b o hb e => kk b o (by simpa using hb) e) f0 f1 f3 f4 f5
    refine ⟨_, rfl, go_of (s := { s with heap := h', toks := tk }) (n := "range_iterator") st' rfl rfl (by decide) ⟨.int (lo + i), H, I1, ⟨t, ?_⟩, ⟨rfl, rfl⟩, st', fun b hb => (hf b hb).1⟩⟩
    rw [Int.mul_one]
  done := by
    intro X hP hw hK hc i pins s σ H E I hf st hg
    subst hP hw hK
    obtain ⟨f0, f1, f2, f3, f4, f5⟩ := hf it (by simp)
    exact wpAny_pyNext_range_end (I.ok.hd hc) st (by have : n ≤ i := hg; omega) fun h' eb => ⟨rfl, I.turned (t' := s.toks) (fun b o hb e => eb b o hb e) f0 f1 f3 f4 f5⟩
  self := fun _ _ _ _ _ st h => wpAny_pyIter_rangeiter st h
end L2

namespace L2
open PySem PySem.Spec PyProof.Rows
section
variable {X : Cx} {tg : Expr}
def iList (K : PySem.W.Frag) (tl : TE) : TI := fun σ H R => tl σ H fun x H1 => ∃ a, x = .ref a ∧ (∃ xs, SqL K H1 a xs) ∧ R (Itl K a) H1
def iTup (K : PySem.W.Frag) (tl : TE) : TI := fun σ H R => tl σ H fun x H1 => ∃ a, x = .ref a ∧ (∃ xs, SqT K H1 a xs) ∧ R (Itt K a) H1
theorem pi_tup {l : Expr} {tl : TE} (hl : PE X l tl) : PI X tg l (iTup X.K tl) := by
  intro pins s σ H R I h
  refine thn (hl pins s σ H _ I h) fun v s1 ⟨x, H1, I1, r1, q1⟩ => ?_
  obtain ⟨a, e, ⟨xs, hq⟩, q⟩ := q1
  subst e
  cases r1
  obtain ⟨its, rv, p, hz⟩ := I1.tuple hq
  refine wpAny_pyIter_tuple (show s1.heap.IsTuple a its.toArray from p) ?_
  refine ⟨s1.heap.objs.size, [s1.heap.objs.size], _, _, H1, rfl, I1.kept (t' := s1.toks) fun b o e => Heap.get?_push_of_some _ e, turn_tuple a _, ⟨_, Heap.get?_push_size _ rfl, rfl, rfl⟩, fun b hb => ?_, q⟩
  have e : b = s1.heap.objs.size := by simpa using hb
  subst e
  exact I1.fpOk (Nat.le_refl _) (I1.hok.fresh (Nat.le_refl _))
/-- a range object just made, walked -/
theorem range_it {pins : List (Addr × Obj)} {σ : St} {H : Hp} {s : Shared} {R : It → Hp → Prop} {E : Value → Shared → Prop} {lo hi : Int} {t u v : Tok} {tk : Nat} (I : Inv X pins σ H s) (h1 : -(2 ^ 62) ≤ lo) (h2 : lo < 2 ^ 62) (h3 : -(2 ^ 62) ≤ hi) (h4 : hi < 2 ^ 62)
    (q : R (Itr lo (hi - lo).toNat) H) : wpAny (model X.prog X.w) X.A (pyIter (.ref s.heap.objs.size)) (PIE X pins σ tg R) E { s with heap := s.heap.push { cls := .type "range", data := .fields #[.int lo t, .int hi u, .int 1 v] }, toks := tk } := by
  refine wpAny_pyIter_range (IsRange.new ..) (small_one h1 h2 h3 h4) ?_
  have I1 : Inv X pins σ H { s with heap := s.heap.push { cls := .type "range", data := .fields #[.int lo t, .int hi u, .int 1 v] }, toks := tk } := I.kept fun b o e => Heap.get?_push_of_some _ e
  refine ⟨(s.heap.push { cls := .type "range", data := .fields #[.int lo t, .int hi u, .int 1 v] }).objs.size, [(s.heap.push { cls := .type "range", data := .fields #[.int lo t, .int hi u, .int 1 v] }).objs.size], _, _, H, rfl,
    I1.kept (t' := tk) fun b o e => Heap.get?_push_of_some _ e, turn_range _ lo (hi - lo).toNat, ?_, fun b hb => ?_, q⟩
  · have e1 : lo + ((0 : Nat) : Int) * 1 = lo := by simp
    have e2 : (((hi - lo).toNat : Nat) : Int) - ((0 : Nat) : Int) = Builtin.Range.rangeSize lo hi 1 := by rw [rangeSize_one]; split <;> omega
    show IsRangeIter _ _ (lo + ((0 : Nat) : Int) * 1) ((((hi - lo).toNat : Nat) : Int) - ((0 : Nat) : Int)) 1
    rw [e1, e2]
    exact Heap.get?_push_size _ rfl
  · have e : b = (s.heap.push { cls := .type "range", data := .fields #[.int lo t, .int hi u, .int 1 v] }).objs.size := by simpa using hb
    subst e
    exact I1.fpOk (Nat.le_refl _) (I1.hok.fresh (Nat.le_refl _))
def iRng1 (ta : TA) : TI := fun σ H R => ta σ H fun vs H1 => ∃ j : Int, vs = [.int j] ∧ -(2 ^ 62) ≤ j ∧ j < 2 ^ 62 ∧ R (Itr 0 j.toNat) H1
def iRng2 (ta : TA) : TI := fun σ H R => ta σ H fun vs H1 => ∃ i j : Int, vs = [.int i, .int j] ∧ (-(2 ^ 62) ≤ i ∧ i < 2 ^ 62 ∧ -(2 ^ 62) ≤ j ∧ j < 2 ^ 62) ∧ R (Itr i (j - i).toNat) H1
theorem pi_range1 {a : Expr} {ta : TA} {p pos : Pos} (hg : Gl X "range") (hm : X.mg "range" = none) (ha : PA X [a] ta) (hs : starEach [a] X.env = [(false, eval a X.env)] := by rfl) : PI X tg (.Call (.Name "range" p) [a] [] pos) (iRng1 ta) := by
  intro pins s σ H R I h
  refine Call_ (ld_blt I hg hm boot_range (PyProof.Rows.callWith_type1 (thn (ha pos pins s σ H _ I h) fun us s1 ⟨vs, H1, I1, r1, q1⟩ => ?_) hs rfl))
  obtain ⟨j, e, q1, q2, q⟩ := q1
  subst e
  cases r1 with
  | cons r rr =>
    cases rr
    obtain ⟨t, rfl⟩ := r
    exact call_range_1 (range_it I1 (by omega) (by omega) q1 q2 (by simpa using q))
theorem pi_range2 {a b : Expr} {ta : TA} {p pos : Pos} (hg : Gl X "range") (hm : X.mg "range" = none) (ha : PA X [a, b] ta) (hs : starEach [a, b] X.env = [(false, eval a X.env), (false, eval b X.env)] := by rfl) (hs2 : starEach [b] X.env = [(false, eval b X.env)] := by rfl) :
    PI X tg (.Call (.Name "range" p) [a, b] [] pos) (iRng2 ta) := by
  intro pins s σ H R I h
  refine Call_ (ld_blt I hg hm boot_range (PyProof.Rows.callWith_type1 (thn (ha pos pins s σ H _ I h) fun us s1 ⟨vs, H1, I1, r1, q1⟩ => ?_) (by rw [hs, hs2]) (by rw [hs2]; rfl)))
  obtain ⟨i, j, e, ⟨q1, q2, q3, q4⟩, q⟩ := q1
  subst e
  cases r1 with
  | cons r rr =>
    cases rr with
    | cons r' rr =>
      cases rr
      obtain ⟨t, rfl⟩ := r
      obtain ⟨t', rfl⟩ := r'
      exact call_range_2 (range_it I1 q1 q2 q3 q4 q)

/-! ### for -/
/-- W: the invariant by the turn and a measure; N: what the body is to reach -/
def tFor (wi : TI) (g : TG) (tb : TS) : TS := fun D σ H => wi σ H fun J H1 => ∃ W : Nat → Nat → St → Hp → Prop, (∃ m, W 0 m σ H1) ∧ ∀ i m σ H, W i m σ H →
  (J.stop i H ∧ D.nx σ H) ∨ (J.go i H ∧ ∃ N : St → Hp → Prop, (∀ σ' H', N σ' H' → ∃ m', m' < m ∧ W (i + 1) m' σ' H') ∧ ∀ x H', J.yld i H x H' → g x σ H' fun σ2 H2 => tb { D with nx := N, ct := N, bk := D.nx } σ2 H2)
/-- the records at fp as they stand -/
def pinsAt (fp : List Addr) (h : Heap) : List (Addr × Obj) := fp.filterMap fun b => (h.get? b).map fun o => (b, o)
theorem mem_pinsAt {fp : List Addr} {h : Heap} {b : Addr} {o : Obj} (hb : b ∈ fp) (e : h.get? b = some o) : (b, o) ∈ pinsAt fp h := List.mem_filterMap.mpr ⟨b, hb, by rw [e]; rfl⟩
theorem of_pinsAt {fp : List Addr} {h : Heap} {p : Addr × Obj} (hp : p ∈ pinsAt fp h) : p.1 ∈ fp ∧ h.get? p.1 = some p.2 := by
  obtain ⟨b, hb, e⟩ := List.mem_filterMap.mp hp
  cases q : h.get? b with
  | none => rw [q] at e; cases e
  | some o =>
    rw [q] at e
    have e' : (b, o) = p := Option.some.inj e
    subst e'
    exact ⟨hb, q⟩
theorem Inv.pinned {pins : List (Addr × Obj)} {σ : St} {H : Hp} {s : Shared} {fp : List Addr} (I : Inv X pins σ H s) (hf : ∀ b ∈ fp, FpOk X pins H b) (ho : ∀ b ∈ fp, ∃ o, s.heap.get? b = some o ∧ ∀ v, o.data ≠ .cell v) : Inv X (pins ++ pinsAt fp s.heap) σ H s :=
  I.pins_of fun p hp => (List.mem_append.mp hp).elim (fun z => I.pin p (List.mem_append_right _ z)) fun z => by
    obtain ⟨hb, e⟩ := of_pinsAt z
    obtain ⟨f0, f1, f2, _⟩ := hf p.1 hb
    obtain ⟨o, e', d⟩ := ho p.1 hb
    rw [e] at e'; cases e'
    exact ⟨e, f0, f1, f2, d⟩
theorem Inv.unpinned {pins pl : List (Addr × Obj)} {σ : St} {H : Hp} {s : Shared} (I : Inv X (pins ++ pl) σ H s) : Inv X pins σ H s := I.pins_of fun p hp => I.pin p (List.mem_append_right _ (List.mem_append_left _ hp))
theorem ps_for {iter : Expr} {body : List Stmt} {wi : TI} {g : TG} {tb : TS} {pos : Pos} (hp : PassesOwn (model X.prog X.w) X.A X.env X.xe) (hc : X.calm = true) (hi : PI X tg iter wi) (hg : PG X tg g) (hb : PSs X body tb)
    (hs : ∀ x, foldedSetIterable iter X.env x = pure x := by intro _; rfl) : PS X (.For tg iter body [] pos) (tFor wi g tb) := by
  intro pins s σ H D I h
  refine wpAny_For (thn (hi pins s σ H _ I h) fun v s1 h1 => thn h1 fun itv s2 h2 => ?_) hs
  obtain ⟨it, fp, tn, J, H2, e, I2, T, st2, f2, W, ⟨m0, w0⟩, turn⟩ := h2
  subst e
  -- what stays true of the iterator's objects through the loop
  have stat : ∀ {H' : Hp}, (∀ b ∈ fp, H' b = none) → ∀ b ∈ fp, FpOk X pins H' b := fun hn b hb => ⟨hn b hb, (f2 b hb).2⟩
  refine codeAny_forLoop_any (fun n s' => ∃ i σ' H', Inv X pins σ' H' s' ∧ tn i s'.heap ∧ (∀ b ∈ fp, H' b = none) ∧ W i n σ' H') ?_ m0 ⟨0, σ, H2, I2, st2, fun b hb => (f2 b hb).1, w0⟩
  rintro n s3 ⟨i, σ3, H3, I3, st3, fr3, w3⟩
  rcases turn i n σ3 H3 w3 with ⟨stop, qn⟩ | ⟨go, N, hN, step⟩
  · refine wpAny_passesOwn hp (thn (T.done X rfl rfl rfl hc i pins s3 σ3 H3 X.xe I3 (stat fr3) st3 stop) fun r s4 ⟨hr, I4⟩ => ?_)
    subst hr
    exact wpAny_execs_nil ⟨σ3, H3, I4, qn⟩
  · refine wpAny_passesOwn hp (thn (T.item X rfl rfl rfl hc i pins s3 σ3 H3 X.xe I3 (stat fr3) st3 go) fun r s4 ⟨u, hr, h4⟩ => ?_)
    subst hr
    refine wpAny_passesOwn hp (thn h4 fun _ s5 ⟨x, H5, I5, r5, y5, st5, fr5⟩ => ?_)
    have I5' := I5.pinned (stat fr5) (T.obj _ _ st5)
    refine wpAny_passesOwn hp (thn (hg _ s5 σ3 H5 x u _ I5' r5 (step x H5 y5)) fun _ s6 ⟨σ6, H6, I6, q6⟩ => ?_)
    refine wpAny_passesOwn hp (thn (hb _ s6 σ6 H6 _ I6 q6) fun f s7 q7 => ?_)
    have again : ∀ {σ7 : St} {H7 : Hp}, Inv X (pins ++ pinsAt fp s5.heap) σ7 H7 s7 → N σ7 H7 → ∃ m, m < n ∧ ∃ i σ' H', Inv X pins σ' H' s7 ∧ tn i s7.heap ∧ (∀ b ∈ fp, H' b = none) ∧ W i m σ' H' := fun {σ7 H7} I7 n7 => by
      obtain ⟨m', hm, w7⟩ := hN σ7 H7 n7
      refine ⟨m', hm, i + 1, σ7, H7, I7.unpinned, T.keep _ _ _ st5 fun b hb o e => (I7.pin (b, o) (List.mem_append_right _ (List.mem_append_right _ (mem_pinsAt hb e)))).1, fun b hb => ?_, w7⟩
      obtain ⟨o, e, d⟩ := T.obj _ _ st5 b hb
      exact (I7.pin (b, o) (List.mem_append_right _ (List.mem_append_right _ (mem_pinsAt hb e)))).2.1
    cases f with
    | next => obtain ⟨σ7, H7, I7, n7⟩ := q7; exact again I7 n7
    | cont => obtain ⟨σ7, H7, I7, n7⟩ := q7; exact again I7 n7
    | brk => obtain ⟨σ7, H7, I7, q7⟩ := q7; exact ⟨σ7, H7, I7.unpinned, q7⟩
    | ret v => obtain ⟨x7, σ7, H7, I7, r7, q7⟩ := q7; exact ⟨x7, σ7, H7, I7.unpinned, r7, q7⟩
end

/-! ### the forms one uses -/
theorem for_range {lo : Int} {n : Nat} {g : TG} {tb : TS} {D : Ends} {σ : St} {H : Hp} (Pv : Nat → St → Hp → Prop) (h0 : Pv 0 σ H)
    (hs : ∀ i σ H, i < n → Pv i σ H → g (.int (lo + i)) σ H fun σ2 H2 => tb { D with nx := Pv (i + 1), ct := Pv (i + 1), bk := D.nx } σ2 H2) (hd : ∀ σ H, Pv n σ H → D.nx σ H) :
    ∃ W : Nat → Nat → St → Hp → Prop, (∃ m, W 0 m σ H) ∧ ∀ i m σ H, W i m σ H →
      ((Itr lo n).stop i H ∧ D.nx σ H) ∨ ((Itr lo n).go i H ∧ ∃ N : St → Hp → Prop, (∀ σ' H', N σ' H' → ∃ m', m' < m ∧ W (i + 1) m' σ' H') ∧ ∀ x H', (Itr lo n).yld i H x H' → g x σ H' fun σ2 H2 => tb { D with nx := N, ct := N, bk := D.nx } σ2 H2) := by
  refine ⟨fun i m σ H => m = n - i ∧ i ≤ n ∧ Pv i σ H, ⟨n, by simp, Nat.zero_le _, h0⟩, ?_⟩
  rintro i m σ H ⟨rfl, hi, p⟩
  by_cases hlt : i < n
  · refine .inr ⟨hlt, Pv (i + 1), fun σ' H' p' => ⟨n - (i + 1), by omega, rfl, hlt, p'⟩, fun x H' y => ?_⟩
    obtain ⟨e, y⟩ := y
    subst e y
    exact hs i σ _ hlt p
  · have e : i = n := by omega
    subst e
    exact .inl ⟨Nat.le_refl _, hd σ H p⟩
/-- while, by a word and a measure of the state -/
theorem while_by {c : TT} {tb : TS} {D : Ends} {σ : St} {H : Hp} (Pv : St → Hp → Prop) (μ : St → Hp → Nat) (h0 : Pv σ H)
    (hs : ∀ σ H, Pv σ H → c σ H fun b H1 => if b = true then tb { D with nx := fun σ' H' => Pv σ' H' ∧ μ σ' H' < μ σ H, ct := fun σ' H' => Pv σ' H' ∧ μ σ' H' < μ σ H, bk := D.nx } σ H1 else D.nx σ H1)
    (mono : ∀ σ H Q Q', (∀ b H1, Q b H1 → Q' b H1) → c σ H Q → c σ H Q') : tWhile c tb D σ H := by
  refine ⟨fun m σ H => m = μ σ H ∧ Pv σ H, ⟨_, rfl, h0⟩, ?_⟩
  rintro m σ H ⟨rfl, p⟩
  refine mono σ H _ _ (fun b H1 q => ?_) (hs σ H p)
  cases b with
  | true => exact ⟨_, fun σ' H' ⟨p', l⟩ => ⟨_, l, rfl, p'⟩, q⟩
  | false => exact q
end L2

namespace L2
open PySem PySem.Spec PyProof.Rows

abbrev R2 := V → V → Hp → VK → Prop
/-- a two-place operation on values: f is binaryOp op, inplaceOp op or compareOp op -/
def OpR (X : Cx) (f : Value → Value → Sem Value) (r : R2) : Prop :=
  ∀ (pins : List (Addr × Obj)) (s : Shared) (σ : St) (H : Hp) (x y : V) (v u : Value) (Q : VK), Inv X pins σ H s → RelV x v → RelV y u → r x y H Q →
    wpAny (model X.prog X.w) X.A (f v u) (EP X pins σ Q) X.xe s
/-- a one-place operation -/
def UnR (X : Cx) (f : Value → Sem Value) (r : V → Hp → VK → Prop) : Prop :=
  ∀ (pins : List (Addr × Obj)) (s : Shared) (σ : St) (H : Hp) (x : V) (v : Value) (Q : VK), Inv X pins σ H s → RelV x v → r x H Q →
    wpAny (model X.prog X.w) X.A (f v) (EP X pins σ Q) X.xe s
/-- a call of a value that is known (a builtin, a type) with values -/
def CallR (X : Cx) (f : Value) (r : List V → Hp → VK → Prop) : Prop :=
  ∀ (pins : List (Addr × Obj)) (s : Shared) (σ : St) (H : Hp) (xs : List V) (us : List Value) (Q : VK), Inv X pins σ H s → Vals xs us → r xs H Q →
    wpAny (model X.prog X.w) X.A (call f us) (EP X pins σ Q) X.xe s
/-- a value's truth -/
def TruR (X : Cx) (r : V → Hp → (Bool → Hp → Prop) → Prop) : Prop :=
  ∀ (pins : List (Addr × Obj)) (s : Shared) (σ : St) (H : Hp) (x : V) (v : Value) (Q : Bool → Hp → Prop), Inv X pins σ H s → RelV x v → r x H Q →
    wpAny (model X.prog X.w) X.A (truthy v) (TP X pins σ Q) X.xe s

def tOp (r : R2) (ta tb : TE) : TE := fun σ H Q => ta σ H fun x H1 => tb σ H1 fun y H2 => r x y H2 Q
def tUn (r : V → Hp → VK → Prop) (ta : TE) : TE := fun σ H Q => ta σ H fun x H1 => r x H1 Q
/-- ints in, under C, and a value out -/
def rI (C : Int → Int → Prop) (g : Int → Int → V) : R2 := fun x y H Q => ∃ i j, x = .int i ∧ y = .int j ∧ C i j ∧ Q (g i j) H
def rI0 (g : Int → Int → V) : R2 := fun x y H Q => ∃ i j, x = .int i ∧ y = .int j ∧ Q (g i j) H
def rU (g : Int → V) : V → Hp → VK → Prop := fun x H Q => ∃ i, x = .int i ∧ Q (g i) H

section
variable {X : Cx} {a b c : Expr} {ta tb tc : TE} {pos : Pos}

theorem binT (ha : PE X a ta) (hb : PE X b tb) {pins : List (Addr × Obj)} {s : Shared} {σ : St} {H : Hp} {R : V → V → Hp → Prop} (I : Inv X pins σ H s)
    (h : ta σ H fun x H1 => tb σ H1 fun y H2 => R x y H2) {Q : Value → Shared → Prop} {f : Value → Value → Sem Value}
    (hf : ∀ v u s2 x y H2, Inv X pins σ H2 s2 → RelV x v → RelV y u → R x y H2 → wpAny (model X.prog X.w) X.A (f v u) Q X.xe s2) :
    wpAny (model X.prog X.w) X.A (eval a X.env) (fun v s₁ => wpAny (model X.prog X.w) X.A (eval b X.env) (fun u s₂ => wpAny (model X.prog X.w) X.A (f v u) Q X.xe s₂) X.xe s₁) X.xe s := by
  refine thn (ha pins s σ H _ I h) fun v s1 ⟨x, H1, I1, r1, q1⟩ => ?_
  refine thn (hb pins s1 σ H1 _ I1 q1) fun u s2 ⟨y, H2, I2, r2, q2⟩ => ?_
  exact hf v u s2 x y H2 I2 r1 r2 q2

theorem pe_op {op : Operator} {r : R2} (ho : OpR X (binaryOp op) r) (ha : PE X a ta) (hb : PE X b tb) : PE X (.BinOp a op b pos) (tOp r ta tb) := by
  intro pins s σ H Q I h
  exact wpAny_BinOp (binT ha hb I h fun v u s2 x y H2 I2 rx ry q => ho pins s2 σ H2 x y v u Q I2 rx ry q)
theorem pe_un {op : UnaryOp} {r : V → Hp → VK → Prop} (ho : UnR X (unaryOp op) r) (ha : PE X a ta) : PE X (.UnaryOp op a pos) (tUn r ta) := by
  intro pins s σ H Q I h
  exact UnaryOp_ (thn (ha pins s σ H _ I h) fun v s1 ⟨x, H1, I1, r1, q1⟩ => ho pins s1 σ H1 x v Q I1 r1 q1)
/-! ### ints -/
theorem opI {f : Value → Value → Sem Value} {C : Int → Int → Prop} {g : Int → Int → Int}
    (rule : ∀ (i j : Int) (t u : Tok) (s : Shared) (Q : Value → Shared → Prop) (E : Value → Shared → Prop), C i j → Q (.int (g i j) s.toks) { s with toks := s.toks + 1 } → wpAny (model X.prog X.w) X.A (f (.int i t) (.int j u)) Q E s) :
    OpR X f (rI C fun i j => .int (g i j)) := by
  intro pins s σ H x y v u Q I rx ry h
  obtain ⟨i, j, rfl, rfl, hc, q⟩ := h
  obtain ⟨t, rfl⟩ := rx
  obtain ⟨t', rfl⟩ := ry
  exact rule i j t t' s _ _ hc ⟨.int (g i j), H, I.tok _, ⟨_, rfl⟩, q⟩
theorem opI0 {f : Value → Value → Sem Value} {g : Int → Int → Int}
    (rule : ∀ (i j : Int) (t u : Tok) (s : Shared) (Q : Value → Shared → Prop) (E : Value → Shared → Prop), Q (.int (g i j) s.toks) { s with toks := s.toks + 1 } → wpAny (model X.prog X.w) X.A (f (.int i t) (.int j u)) Q E s) :
    OpR X f (rI0 fun i j => .int (g i j)) := by
  intro pins s σ H x y v u Q I rx ry h
  obtain ⟨i, j, rfl, rfl, q⟩ := h
  obtain ⟨t, rfl⟩ := rx
  obtain ⟨t', rfl⟩ := ry
  exact rule i j t t' s _ _ ⟨.int (g i j), H, I.tok _, ⟨_, rfl⟩, q⟩
theorem opB0 {f : Value → Value → Sem Value} {g : Int → Int → Bool}
    (rule : ∀ (i j : Int) (t u : Tok) (s : Shared) (Q : Value → Shared → Prop) (E : Value → Shared → Prop), Q (.bool (g i j)) s → wpAny (model X.prog X.w) X.A (f (.int i t) (.int j u)) Q E s) :
    OpR X f (rI0 fun i j => .bl (g i j)) := by
  intro pins s σ H x y v u Q I rx ry h
  obtain ⟨i, j, rfl, rfl, q⟩ := h
  obtain ⟨t, rfl⟩ := rx
  obtain ⟨t', rfl⟩ := ry
  exact rule i j t t' s _ _ ⟨.bl (g i j), H, I, rfl, q⟩

def CDiv (i j : Int) : Prop := 0 < j ∧ j < 1073741824
def CDivN (i j : Int) : Prop := j ≠ 0 ∧ j.natAbs < 1073741824
def CPow (i j : Int) : Prop := 0 ≤ j ∧ j ≤ 1000000 ∧ i.natAbs < 2 ^ 64
def CMul (i j : Int) : Prop := (-(2 ^ 64) < i ∧ i < 2 ^ 64) ∨ (-(2 ^ 64) < j ∧ j < 2 ^ 64)
theorem CMul.ok {i j : Int} (h : CMul i j) : IntMulOk i j := by
  rcases h with ⟨h1, h2⟩ | ⟨h1, h2⟩
  · exact .of_left (intBits_le_64 h1 h2)
  · exact .of_right (intBits_le_64 h1 h2)
theorem op_add : OpR X (binaryOp .Add) (rI0 fun i j => .int (i + j)) := opI0 fun _ _ _ _ _ _ _ q => add_int q
theorem op_sub : OpR X (binaryOp .Sub) (rI0 fun i j => .int (i - j)) := opI0 fun _ _ _ _ _ _ _ q => sub_int q
theorem op_mul : OpR X (binaryOp .Mult) (rI CMul fun i j => .int (i * j)) := opI fun _ _ _ _ _ _ _ hc q => mul_int q hc.ok
/-- % by a positive divisor of any size -/
theorem op_mod : OpR X (binaryOp .Mod) (rI (fun _ j => 0 < j) fun i j => .int (i % j)) := opI fun i j _ _ _ _ _ hc q => by
  have h1 : (0 : Int) < j := hc
  exact mod_int' (by omega) (by rw [Int.fmod_eq_emod_of_nonneg i (by omega)]; exact q)
theorem unI {f : Value → Sem Value} {g : Int → Int}
    (rule : ∀ (i : Int) (t : Tok) (s : Shared) (Q : Value → Shared → Prop) (E : Value → Shared → Prop), Q (.int (g i) s.toks) { s with toks := s.toks + 1 } → wpAny (model X.prog X.w) X.A (f (.int i t)) Q E s) :
    UnR X f (rU fun i => .int (g i)) := by
  intro pins s σ H x v Q I rx h
  obtain ⟨i, rfl, q⟩ := h
  obtain ⟨t, rfl⟩ := rx
  exact rule i t s _ _ ⟨.int (g i), H, I.tok _, ⟨_, rfl⟩, q⟩
theorem un_neg : UnR X (unaryOp .USub) (rU fun i => .int (-i)) := unI fun _ _ _ _ _ q => neg_int q
/-! ### bools among ints: n += (a < b) -/
end

/-! ### comparisons -/
/-- the scalars that == tells apart as data does -/
def scal : V → V → Bool
  | .non, .non => true | .non, .int _ => true | .int _, .non => true | .non, .bl _ => true | .bl _, .non => true | .non, .str _ => true | .str _, .non => true
  | .int _, .int _ => true | .bl _, .bl _ => true | .str _, .str _ => true | .byt _, .byt _ => true
  | .int _, .str _ => true | .str _, .int _ => true | .bl _, .str _ => true | .str _, .bl _ => true
  | _, _ => false
def rEq : R2 := fun x y H Q => scal x y = true ∧ Q (.bl (decide (x = y))) H
def rNe : R2 := fun x y H Q => scal x y = true ∧ Q (.bl (!decide (x = y))) H

theorem dec_int {i j : Int} : decide (V.int i = V.int j) = (i == j) := by
  rw [Bool.eq_iff_iff]
  simp
theorem dec_bl {i j : Bool} : decide (V.bl i = V.bl j) = (i == j) := by
  rw [Bool.eq_iff_iff]
  simp
theorem dec_str {i j : Str} : decide (V.str i = V.str j) = (i == j) := by
  rw [Bool.eq_iff_iff]
  simp
theorem dec_byt {i j : Array UInt8} : decide (V.byt i = V.byt j) = (i.toList == j.toList) := by
  rw [Bool.eq_iff_iff]
  cases i
  cases j
  simp

section
variable {X : Cx} {a b c : Expr} {ta tb tc : TE} {pos : Pos}
theorem fin_bl {pins : List (Addr × Obj)} {σ : St} {H : Hp} {s : Shared} {Q : VK} {k k' : Bool} (I : Inv X pins σ H s) (q : Q (.bl k) H) (e : k = k') : EP X pins σ Q (.bool k') s := by
  subst e
  exact ⟨.bl k, H, I, rfl, q⟩
theorem op_eq : OpR X (compareOp .Eq) rEq := by
  intro pins s σ H x y v u Q I rx ry h
  obtain ⟨hs, q⟩ := h
  cases x with
  | non =>
    cases rx
    cases y with
    | non => cases ry; exact PySem.EqNone.eq_none_none (fin_bl I q (by simp))
    | bl j => cases ry; exact PySem.EqNone.eq_none_bool (fin_bl I q (by simp))
    | int j => obtain ⟨t', rfl⟩ := ry; exact PySem.EqNone.eq_none_int (fin_bl I q (by simp))
    | str j => obtain ⟨t', rfl⟩ := ry; exact PySem.EqNone.eq_none_str (fin_bl I q (by simp))
    | _ => exact absurd (show false = true from hs) Bool.false_ne_true
  | bl i =>
    cases rx
    cases y with
    | non => cases ry; exact PySem.EqNone.eq_bool_none (fin_bl I q (by simp))
    | bl j => cases ry; exact eq_bool (fin_bl I q dec_bl)
    | str j => obtain ⟨t', rfl⟩ := ry; exact PySem.EqMixed.eq_bool_str (fin_bl I q (by simp))
    | _ => exact absurd (show false = true from hs) Bool.false_ne_true
  | int i =>
    obtain ⟨t, rfl⟩ := rx
    cases y with
    | non => cases ry; exact PySem.EqNone.eq_int_none (fin_bl I q (by simp))
    | int j => obtain ⟨t', rfl⟩ := ry; exact eq_int (fin_bl I q dec_int)
    | str j => obtain ⟨t', rfl⟩ := ry; exact PySem.EqMixed.eq_int_str (fin_bl I q (by simp))
    | _ => exact absurd (show false = true from hs) Bool.false_ne_true
  | str i =>
    obtain ⟨t, rfl⟩ := rx
    cases y with
    | non => cases ry; exact PySem.EqNone.eq_str_none (fin_bl I q (by simp))
    | bl j => cases ry; exact PySem.EqMixed.eq_str_bool (fin_bl I q (by simp))
    | int j => obtain ⟨t', rfl⟩ := ry; exact PySem.EqMixed.eq_str_int (fin_bl I q (by simp))
    | str j => obtain ⟨t', rfl⟩ := ry; exact eq_str (fin_bl I q dec_str)
    | _ => exact absurd (show false = true from hs) Bool.false_ne_true
  | byt i =>
    obtain ⟨t, rfl⟩ := rx
    cases y with
    | byt j => obtain ⟨t', rfl⟩ := ry; exact PySem.W.eq_bytes (fin_bl I q dec_byt)
    | _ => exact absurd (show false = true from hs) Bool.false_ne_true
  | _ => cases y <;> exact absurd (show false = true from hs) Bool.false_ne_true
theorem op_ne : OpR X (compareOp .NotEq) rNe := by
  intro pins s σ H x y v u Q I rx ry h
  obtain ⟨hs, q⟩ := h
  cases x with
  | non =>
    cases rx
    cases y with
    | non => cases ry; exact PySem.EqNone.ne_none_none (fin_bl I q (by simp))
    | bl j => cases ry; exact PySem.EqNone.ne_none_bool (fin_bl I q (by simp))
    | int j => obtain ⟨t', rfl⟩ := ry; exact PySem.EqNone.ne_none_int (fin_bl I q (by simp))
    | str j => obtain ⟨t', rfl⟩ := ry; exact PySem.EqNone.ne_none_str (fin_bl I q (by simp))
    | _ => exact absurd (show false = true from hs) Bool.false_ne_true
  | bl i =>
    cases rx
    cases y with
    | non => cases ry; exact PySem.EqNone.ne_bool_none (fin_bl I q (by simp))
    | bl j => cases ry; exact ne_bool (fin_bl I q (congrArg not dec_bl))
    | str j => obtain ⟨t', rfl⟩ := ry; exact PySem.EqMixed.ne_bool_str (fin_bl I q (by simp))
    | _ => exact absurd (show false = true from hs) Bool.false_ne_true
  | int i =>
    obtain ⟨t, rfl⟩ := rx
    cases y with
    | non => cases ry; exact PySem.EqNone.ne_int_none (fin_bl I q (by simp))
    | int j => obtain ⟨t', rfl⟩ := ry; exact ne_int (fin_bl I q (congrArg not dec_int))
    | str j => obtain ⟨t', rfl⟩ := ry; exact PySem.EqMixed.ne_int_str (fin_bl I q (by simp))
    | _ => exact absurd (show false = true from hs) Bool.false_ne_true
  | str i =>
    obtain ⟨t, rfl⟩ := rx
    cases y with
    | non => cases ry; exact PySem.EqNone.ne_str_none (fin_bl I q (by simp))
    | bl j => cases ry; exact PySem.EqMixed.ne_str_bool (fin_bl I q (by simp))
    | int j => obtain ⟨t', rfl⟩ := ry; exact PySem.EqMixed.ne_str_int (fin_bl I q (by simp))
    | str j => obtain ⟨t', rfl⟩ := ry; exact ne_str (fin_bl I q (congrArg not dec_str))
    | _ => exact absurd (show false = true from hs) Bool.false_ne_true
  | byt i =>
    obtain ⟨t, rfl⟩ := rx
    cases y with
    | byt j => obtain ⟨t', rfl⟩ := ry; exact PySem.W.ne_bytes (fin_bl I q (congrArg not dec_byt))
    | _ => exact absurd (show false = true from hs) Bool.false_ne_true
  | _ => cases y <;> exact absurd (show false = true from hs) Bool.false_ne_true

theorem op_lt : OpR X (compareOp .Lt) (rI0 fun i j => .bl (decide (i < j))) := opB0 fun _ _ _ _ _ _ _ q => lt_int q
theorem op_le : OpR X (compareOp .LtE) (rI0 fun i j => .bl (decide (i ≤ j))) := opB0 fun _ _ _ _ _ _ _ q => le_int q
theorem op_gt : OpR X (compareOp .Gt) (rI0 fun i j => .bl (decide (j < i))) := opB0 fun _ _ _ _ _ _ _ q => gt_int q
theorem op_ge : OpR X (compareOp .GtE) (rI0 fun i j => .bl (decide (j ≤ i))) := opB0 fun _ _ _ _ _ _ _ q => ge_int q
/-- the one string within the other -/
theorem op_in_str : OpR X (compareOp .In) (fun x y H Q => ∃ i j, x = .str i ∧ y = .str j ∧ Q (.bl (!(Builtin.Str.occurrences j i 0 j.length 1).isEmpty)) H) := by
  intro pins s σ H x y v u Q I rx ry h
  obtain ⟨i, j, rfl, rfl, q⟩ := h
  obtain ⟨t, rfl⟩ := rx
  obtain ⟨t', rfl⟩ := ry
  exact in_str (fin_bl I q rfl)

/-- is None, is not None: the right side a value none -/
theorem op_isN : OpR X (compareOp .Is) (fun x y H Q => y = .non ∧ Q (.bl (decide (x = .non))) H) := by
  intro pins s σ H x y v u Q I rx ry h
  obtain ⟨rfl, q⟩ := h
  cases ry
  refine is_none_gen (fin_bl I q ?_)
  cases x <;> first
    | (cases rx; rfl)
    | (obtain ⟨t, rfl⟩ := rx; rfl)
/-- is, is not of two objects that are tracked lists or instances -/
def isObj : HO → Bool
  | .lst _ => true
  | .ins _ _ _ => true
  | _ => false
theorem nomark (b : Expr) {op : CmpOp} (h : op ≠ .In := by decide) (h2 : op ≠ .NotIn := by decide) : behindInMarks op b = false := by
  have e1 : (op == CmpOp.In) = false := by cases op <;> first | rfl | exact absurd rfl h
  have e2 : (op == CmpOp.NotIn) = false := by cases op <;> first | rfl | exact absurd rfl h2
  cases b <;> simp [behindInMarks, e1, e2]
/-- a comparison as a value; hm: nomark b, or (for in, not in) by with_unfolding_all rfl -/
theorem pe_cmpR {op : CmpOp} {r : R2} (ho : OpR X (compareOp op) r) (ha : PE X a ta) (hb : PE X b tb) (hm : behindInMarks op b = false) : PE X (.Compare a [op] [b] pos) (tOp r ta tb) := by
  intro pins s σ H Q I h
  exact wpAny_Compare1 (binT ha hb I h fun v u s2 x y H2 I2 rx ry q => ho pins s2 σ H2 x y v u Q I2 rx ry q) hm
/-- a reading of a value as a test -/
def tTest (t : TE) : TT := fun σ H Q => t σ H fun x H' => ∃ k, x = .bl k ∧ Q k H'
theorem pt_cmpR {op : CmpOp} {r : R2} (ho : OpR X (compareOp op) r) (ha : PE X a ta) (hb : PE X b tb) (hm : behindInMarks op b = false) : PT X (.Compare a [op] [b] pos) (tTest (tOp r ta tb)) := by
  intro pins s σ H Q I h
  refine wpAny_isTrue_Compare1 (thn (ha pins s σ H _ I h) fun v s1 ⟨x, H1, I1, r1, q1⟩ => thn (hb pins s1 σ H1 _ I1 q1) fun u s2 ⟨y, H2, I2, r2, q2⟩ =>
    thn (ho pins s2 σ H2 x y v u _ I2 r1 r2 q2) fun c s3 ⟨z, H3, I3, r3, k, e, q3⟩ => ?_) hm
  subst e
  cases r3
  exact wpAny_truthy_bool ⟨H3, I3, q3⟩
/-- a op1 b op2 c -/
def tChain (r r' : R2) (ta tb tc : TE) : TE := fun σ H Q => ta σ H fun x H1 => tb σ H1 fun y H2 => r x y H2 fun z H3 => ∃ k, z = .bl k ∧
  (if k = true then tc σ H3 fun w' H4 => r' y w' H4 Q else Q (.bl false) H3)
theorem pe_chain {op op' : CmpOp} {r r' : R2} (ho : OpR X (compareOp op) r) (ho' : OpR X (compareOp op') r') (ha : PE X a ta) (hb : PE X b tb) (hc : PE X c tc)
    (hm : lastMarks [op, op'] [b, c] = false := by with_unfolding_all rfl) : PE X (.Compare a [op, op'] [b, c] pos) (tChain r r' ta tb tc) := by
  intro pins s σ H Q I h
  refine Compare_chain (thn (ha pins s σ H _ I h) fun v s1 ⟨x, H1, I1, r1, q1⟩ => chain_link (thn (hb pins s1 σ H1 _ I1 q1) fun u s2 ⟨y, H2, I2, r2, q2⟩ =>
    thn (ho pins s2 σ H2 x y v u _ I2 r1 r2 q2) fun d s3 ⟨z, H3, I3, r3, k, e, q3⟩ => ?_)) hm
  subst e
  cases r3
  refine wpAny_truthy_bool ?_
  cases k with
  | false => exact ite_ff ⟨.bl false, H3, I3, rfl, q3⟩
  | true => exact ite_tt (chain_last (thn (hc pins s3 σ H3 _ I3 q3) fun w' s4 ⟨z', H4, I4, r4, q4⟩ => ho' pins s4 σ H4 y z' u w' Q I4 r2 r4 q4))
/-! ### truth -/
/-- a value's truth by the abstract heap -/
def TruV (K : PySem.W.Frag) (x : V) (H : Hp) (k : Bool) : Prop :=
  match x with
  | .non => k = false
  | .bl b => k = b
  | .int i => k = (i != 0)
  | .str y => y.length ≤ sizeLine ∧ k = ((y.length : Int) != 0)
  | .byt y => y.size ≤ sizeLine ∧ k = ((y.size : Int) != 0)
  | .ref p => (∃ xs, SqL K H p xs ∧ k = !xs.isEmpty) ∨ (∃ xs, SqT K H p xs ∧ k = !xs.isEmpty) ∨ ∃ kvs, H p = some (.dK kvs) ∧ k = !kvs.isEmpty
  | _ => False
theorem line63 : (sizeLine : Nat) < 2 ^ 63 := by rw [sizeLine_eq]; decide
/-! ### strs and bytes -/
theorem op_add_str : OpR X (binaryOp .Add) (fun x y H Q => ∃ i j, x = .str i ∧ y = .str j ∧ i.length + j.length ≤ sizeLine ∧ Q (.str (i ++ j)) H) := by
  intro pins s σ H x y v u Q I rx ry h
  obtain ⟨i, j, rfl, rfl, hz, q⟩ := h
  obtain ⟨t, rfl⟩ := rx
  obtain ⟨t', rfl⟩ := ry
  exact add_str (fun t' tk => ⟨.str (i ++ j), H, I.tok _, ⟨_, rfl⟩, q⟩) hz
def PlainIxT (b : Expr) : Prop := ∀ o i, subscripted b false o i = operate [o, i] (getItem o i)
/-! ### scalar builtins, by CallR -/
theorem vals1 {x : V} {us : List Value} (r : Vals [x] us) : ∃ u, us = [u] ∧ RelV x u := by
  cases r with
  | cons r1 r2 => cases r2; exact ⟨_, rfl, r1⟩
theorem vals2 {x y : V} {us : List Value} (r : Vals [x, y] us) : ∃ u w', us = [u, w'] ∧ RelV x u ∧ RelV y w' := by
  cases r with
  | cons r1 r2 =>
    cases r2 with
    | cons r3 r4 => cases r4; exact ⟨_, _, rfl, r1, r3⟩
theorem call_abs : CallR X (.builtin "abs") (fun xs H Q => ∃ i, xs = [.int i] ∧ Q (.int (if i < 0 then -i else i)) H) := by
  intro pins s σ H xs us Q I r h
  obtain ⟨i, rfl, q⟩ := h
  obtain ⟨u, rfl, t, rfl⟩ := vals1 r
  exact call_abs_int fun u tk => ⟨.int (if i < 0 then -i else i), H, I.tok _, ⟨_, rfl⟩, q⟩
theorem call_min2 (hc : X.calm = true) : CallR X (.builtin "min") (fun xs H Q => ∃ i j, xs = [.int i, .int j] ∧ Q (.int (if j < i then j else i)) H) := by
  intro pins s σ H xs us Q I r h
  obtain ⟨i, j, rfl, q⟩ := h
  obtain ⟨u, w', rfl, ⟨t, rfl⟩, ⟨t', rfl⟩⟩ := vals2 r
  refine min_two_ints (I.ok.hd hc) fun h' tk k => ⟨_, H, I.kept k, ?_, q⟩
  by_cases hj : j < i
  · rw [if_pos hj, if_pos hj]; exact ⟨_, rfl⟩
  · rw [if_neg hj, if_neg hj]; exact ⟨_, rfl⟩
/-- len of a str, a bytes, a list, a tuple -/
def LenV (K : PySem.W.Frag) (x : V) (H : Hp) (n : Nat) : Prop :=
  match x with
  | .str y => y.length ≤ sizeLine ∧ n = y.length
  | .byt y => y.size ≤ sizeLine ∧ n = y.size
  | .ref p => (∃ xs, SqL K H p xs ∧ n = xs.length) ∨ ∃ xs, SqT K H p xs ∧ n = xs.length
  | _ => False
end
end L2

namespace L2
open PySem PySem.Spec PyProof.Rows

/-! ### an instance, its attributes a map -/
structure ObjM (h : Heap) (x dx C : Addr) (mA : Str → Option Value) : Prop where
  obj : h.get? x = some (PySem.W.instObj C dx)
  ns : h.Ns1 dx mA
  ne : dx ≠ x

theorem lookIn_ns {h : Heap} {dx : Addr} {mA : Str → Option Value} (n : h.Ns1 dx mA) : ∃ od, h.get? dx = some od ∧ ∀ name, PySem.W.lookIn name od = some (mA name) := by
  obtain ⟨o, es, ep, ho, hd, hk, _, hm⟩ := n
  refine ⟨o, ho, fun name => ?_⟩
  have e := hm name
  unfold nsFind findBy at e
  rw [← Array.find?_toList] at e
  unfold PySem.W.lookIn
  rw [hd]
  dsimp only
  split
  · rename_i y q
    rw [q] at e
    exact congrArg some e
  · rename_i q
    rw [q] at e
    have a : es.toList.any (·.refKey) = false := by
      rw [List.any_eq_false]
      intro y hy
      obtain ⟨z, t, hkey⟩ := hk y (Array.mem_toList_iff.mp hy)
      simp [DictEntry.refKey, hkey]
    have a' : ¬ es.toList.any (·.refKey) = true := by rw [a]; exact Bool.false_ne_true
    rw [if_neg a']
    exact congrArg some e

theorem ObjM.look {h : Heap} {x dx C : Addr} {mA : Str → Option Value} (I : ObjM h x dx C mA) : ∃ od, PySem.W.InstAt h x (PySem.W.instObj C dx) C (some od) ∧ ∀ name, PySem.W.lookIn name od = some (mA name) :=
  let ⟨od, ho, hl⟩ := lookIn_ns I.ns
  ⟨od, ⟨I.obj, rfl, rfl, ho⟩, hl⟩

section
variable {prog : Program} {w : World} {A : Around} {E : Value → Shared → Prop} {s : Shared} {K : PySem.W.Frag} {x dx C f : Addr} {mA : Str → Option Value} {name : Str} {v : Value}

theorem get_map {expr : Bool} {Q : Value → Shared → Prop} (X : K.In s.heap) (I : ObjM s.heap x dx C mA) (hg : PySem.W.plainGet K C name = true) (hh : PySem.W.hasDictIn K C = true)
    (ha : PySem.W.findIn K (.ref C) name = some none) (hv : mA name = some v) (hv' : PySem.W.handedIn v = true) (h : Q v { s with toks := s.toks + 1 }) :
    wpAny (model prog w) A (getAttr (.ref x) name expr) Q E s := by
  obtain ⟨od, J, hl⟩ := I.look
  exact PySem.W.get_value X J (PySem.W.plainGet_of hg).1 (PySem.W.findObj_own hh ha rfl (by rw [hl, hv])) hv' h

theorem get_meth {pl : Sem Bool} {Q : Value × List Value → Shared → Prop} (X : K.In s.heap) (I : ObjM s.heap x dx C mA) (hg : PySem.W.plainGet K C name = true)
    (hf : PySem.W.findIn K (.ref C) name = some (some (.ref f))) (ht : PySem.W.isFn K (.ref f) = true) (hv : mA name = none) (h : Q (.ref f, [.ref x]) s) :
    wpAny (model prog w) A (getMethod (.ref x) name pl) Q E s := by
  obtain ⟨od, J, hl⟩ := I.look
  exact PySem.W.method_fn X J (PySem.W.plainGet_of hg).1 (PySem.W.plainGet_of hg).2 hf (beq_iff_eq.mp ht) (by show (PySem.W.lookIn name od).map (·.isSome) = some false; rw [hl, hv]; rfl) h

theorem set_map {ns : List Str} {Q : Unit → Shared → Prop} (X : K.In s.heap) (I : ObjM s.heap x dx C mA)
    (hs : PySem.W.findIn K (.ref C) "__setattr__" = some (some (.builtin "object.__setattr__"))) (hp : PySem.W.plainOver K C = true) (ht : PySem.W.takerIn K C name = some none) (hh : PySem.W.hasDictIn K C = true)
    (hw : PySem.Within mA ns) (hsz : ns.length ≤ sizeLine)
    (h : ∀ h', ObjM h' x dx C (fun y => if y = name then some v else mA y) → Heap.SameBut dx s.heap h' → Q () { s with heap := h', toks := s.toks + 2 }) :
    wpAny (model prog w) A (setAttr (.ref x) name v) Q E s := by
  obtain ⟨od, J, hl⟩ := I.look
  refine PySem.W.set_plain X J hs (PySem.W.osa_open (s := { s with toks := s.toks + 1 }) (r := none) X J hp ht fun b => ?_)
  obtain ⟨cd, hc, hd'⟩ := PySem.W.any_some hh
  have hx : s.heap.get? x = some ⟨.ref C, some dx, .plain, #[]⟩ := I.obj
  refine wpAny_bind (wpAny_pure (wpAny_bind (wpAny_bind (wpAny_loadPart hx (wpAny_bind (PySem.W.Looks.here (s := { s with toks := s.toks + 1 }) (PySem.W.looks_clsIn X hc) ?_))))))
  rw [hd']
  refine wpAny_pure (a := some dx) (wpAny_bind (wpAny_pure (wpAny_bind ?_)))
  refine wpAny_nsSet1 (s := { s with toks := s.toks + 1 }) I.ns fun h' hn2 hs2 => ?_
  obtain ⟨oD, esD, epD, hoD, hdD, hcD⟩ := hn2.count (PySem.Within.cons name v hw)
  refine wpAny_bind (wpAny_lookBehind hoD (by rw [hdD]; exact pastItsLine_dict (Nat.le_trans hcD (by rw [List.length_cons]; omega))) ?_)
  exact wpAny_pure (h _ ⟨(hs2.2 _ (Ne.symm I.ne)).trans I.obj, hn2, I.ne⟩ hs2)

/-- C(..): the dict at the heap's end, the instance behind it; then its __init__ -/
theorem make_map {R : Result → Shared → Prop} {vs : List Value} {kw : List (Str × Value)} (X : K.In s.heap) (hm : PySem.W.makesIn K C = true)
    (hi : PySem.W.findIn K (.ref C) "__init__" = some (some (.ref f))) (hf : PySem.W.typeIn K (.ref f) = some (.type "function"))
    (h : codeAny (model prog w) (A.under (.builtin "type.__call__" ⟨.ref C :: vs, kw⟩)) (.call (.ref f) ⟨.ref (s.heap.objs.size + 1) :: vs, kw⟩) (PySem.W.InitBack (s.heap.objs.size + 1) R)
      { s with heap := (s.heap.push PySem.W.emptyDict).push (PySem.W.instObj C s.heap.objs.size) }) :
    codeAny (model prog w) A (.call (.ref C) ⟨vs, kw⟩) R s := by
  obtain ⟨hh, g, d, t, os⟩ := s
  exact PySem.W.make_core (PySem.W.makes_of X hm) (PySem.W.looks_findIn X hi) (fun self => PySem.W.bind_fn X self hf) (.inl rfl) h
end

/-! ### the attributes as a list of pairs -/
def putF (f : Str) (v : V) : List (Str × V) → List (Str × V)
  | [] => [(f, v)]
  | (g, x) :: r => if g = f then (g, v) :: r else (g, x) :: putF f v r
theorem lookup_putF (f g : Str) (v : V) : ∀ fs : List (Str × V), (putF f v fs).lookup g = if g = f then some v else fs.lookup g
  | [] => by
    show List.lookup g [(f, v)] = _
    by_cases h : g = f
    · have hb : (g == f) = true := beq_iff_eq.mpr h
      simp only [List.lookup, hb, if_pos h]
    · have hb : (g == f) = false := beq_eq_false_iff_ne.mpr h
      simp only [List.lookup, hb, if_neg h]
  | (k, x) :: r => by
    have ih := lookup_putF f g v r
    rw [show putF f v ((k, x) :: r) = (if k = f then (k, v) :: r else (k, x) :: putF f v r) from rfl]
    by_cases hk : k = f
    · rw [if_pos hk]
      by_cases h : g = k
      · have hb : (g == k) = true := beq_iff_eq.mpr h
        simp only [List.lookup, hb, if_pos (h.trans hk)]
      · have hb : (g == k) = false := beq_eq_false_iff_ne.mpr h
        simp only [List.lookup, hb, if_neg (fun e : g = f => h (e.trans hk.symm))]
    · rw [if_neg hk]
      by_cases h : g = k
      · have hb : (g == k) = true := beq_iff_eq.mpr h
        simp only [List.lookup, hb, if_neg (fun e : g = f => hk (h.symm.trans e))]
      · have hb : (g == k) = false := beq_eq_false_iff_ne.mpr h
        simp only [List.lookup, hb]
        exact ih
theorem keys_putF (f : Str) (v : V) : ∀ fs : List (Str × V), f ∈ (putF f v fs).map (·.1) ∧ ∀ g, g ∈ fs.map (·.1) → g ∈ (putF f v fs).map (·.1)
  | [] => ⟨by simp [putF], fun g h => by simp at h⟩
  | (k, x) :: r => by
    obtain ⟨i1, i2⟩ := keys_putF f v r
    rw [show putF f v ((k, x) :: r) = (if k = f then (k, v) :: r else (k, x) :: putF f v r) from rfl]
    by_cases hk : k = f
    · rw [if_pos hk]
      subst hk
      exact ⟨by simp, fun g h => by simpa using h⟩
    · rw [if_neg hk]
      refine ⟨?_, fun g h => ?_⟩
      · rw [List.map_cons]
        exact List.mem_cons_of_mem _ i1
      · rw [List.map_cons] at h ⊢
        rcases List.mem_cons.mp h with e | e
        · exact List.mem_cons.mpr (.inl e)
        · exact List.mem_cons_of_mem _ (i2 g e)
theorem length_putF (f : Str) (v : V) : ∀ fs : List (Str × V), (putF f v fs).length ≤ fs.length + 1
  | [] => by simp [putF]
  | (k, x) :: r => by
    have ih := length_putF f v r
    rw [show putF f v ((k, x) :: r) = (if k = f then (k, v) :: r else (k, x) :: putF f v r) from rfl]
    by_cases hk : k = f
    · rw [if_pos hk, List.length_cons, List.length_cons]; omega
    · rw [if_neg hk, List.length_cons, List.length_cons]; omega

theorem RelO.some_of {v : V} {o : Option Value} (r : RelO (some v) o) : ∃ u, o = some u ∧ RelV v u := by
  cases o with
  | none => exact (show False from r).elim
  | some u => exact ⟨u, rfl, r⟩
theorem RelO.none_of {o : Option Value} (r : RelO none o) : o = none := by
  cases o with
  | none => rfl
  | some u => exact (show False from r).elim
theorem handed_of {v : V} {u : Value} (r : RelV v u) : PySem.W.handedIn u = true := by
  cases v with
  | non => cases (show u = Value.none from r); rfl
  | bl b => cases (show u = Value.bool b from r); rfl
  | int i => obtain ⟨t, e⟩ := (show ∃ t, u = Value.int i t from r); cases e; rfl
  | str x => obtain ⟨t, e⟩ := (show ∃ t, u = Value.str x t from r); cases e; rfl
  | byt b => obtain ⟨t, e⟩ := (show ∃ t, u = Value.bytes b t from r); cases e; rfl
  | flt b => obtain ⟨t, e⟩ := (show ∃ t, u = Value.float b t from r); cases e; rfl
  | ref a => cases (show u = Value.ref a from r); rfl
  | ty n => cases (show u = Value.type n from r); rfl

section
variable {P : Program} {w : World} {H H' : Hp} {h h' : Heap} {a C dx : Addr} {fs fs' : List (Str × V)}
theorem ins_get (hok : HOk P w H h) (e : H a = some (.ins C dx fs)) : ∃ mA, ObjM h a dx C mA ∧ (∀ f, RelO (fs.lookup f) (mA f)) ∧ PySem.Within mA (fs.map (·.1)) ∧ fs.length ≤ 1000 ∧ H dx = some (.own a) := by
  obtain ⟨d, z, ne, ob, mA, n, r, q⟩ := (show ObjOk P w H h a (.ins C dx fs) from hok a _ e)
  exact ⟨mA, ⟨ob, n, ne⟩, r, q, z, d⟩
end

/-! ### what of the text a class must have -/
structure Cls (K : PySem.W.Frag) (C : Addr) : Prop where
  pg : PySem.W.plainGet K C Str.empty = true
  hd : PySem.W.hasDictIn K C = true
  po : PySem.W.plainOver K C = true
  sa : PySem.W.findIn K (.ref C) "__setattr__" = some (some (.builtin "object.__setattr__"))
theorem Cls.get {K : PySem.W.Frag} {C : Addr} (c : Cls K C) (f : Str) : PySem.W.plainGet K C f = true := c.pg
/-- no class of it has the name -/
def NoAttr (K : PySem.W.Frag) (C : Addr) (f : Str) : Prop := PySem.W.findIn K (.ref C) f = some none
theorem NoAttr.taker {K : PySem.W.Frag} {C : Addr} {f : Str} (n : NoAttr K C f) : PySem.W.takerIn K C f = some none := by
  unfold PySem.W.takerIn
  rw [show PySem.W.findIn K (.ref C) f = some none from n]
  rfl
/-- a constant of the class -/
structure Con (K : PySem.W.Frag) (C : Addr) (f : Str) (v : V) (u : Value) : Prop where
  at_ : PySem.W.findIn K (.ref C) f = some (some u)
  rel : RelV v u
  get : PySem.W.specialIn K u "__get__" = some none
  cp : PySem.W.copiedNames.contains f = false
/-- a method: a plain def of the class or of one above it -/
structure Meth (K : PySem.W.Frag) (C : Addr) (m : Str) (f : Addr) : Prop where
  at_ : PySem.W.findIn K (.ref C) m = some (some (.ref f))
  fn : PySem.W.isFn K (.ref f) = true
  kp : PySem.W.keepIn K (.ref f) = true

section
variable {X : Cx} {pins : List (Addr × Obj)} {σ : St} {H : Hp} {s : Shared} {a C dx : Addr} {fs : List (Str × V)} {f : Str} {v : V} {A : Around} {E : Value → Shared → Prop}

theorem getattr_ok {b : Bool} {Q : Value → Shared → Prop} (I : Inv X pins σ H s) (e : H a = some (.ins C dx fs)) (c : Cls X.K C) (n : NoAttr X.K C f) (l : fs.lookup f = some v)
    (h : ∀ u s', Inv X pins σ H s' → RelV v u → Q u s') : wpAny (model X.prog X.w) A (getAttr (.ref a) f b) Q E s := by
  obtain ⟨mA, O, r, _, _, _⟩ := ins_get I.hok e
  obtain ⟨u, hu, ru⟩ := RelO.some_of (v := v) (o := mA f) (by rw [← l]; exact r f)
  exact get_map I.kIn O (c.get f) c.hd n hu (handed_of ru) (h u _ (I.tok _) ru)

theorem getmeth_ok {m : Str} {g : Addr} {pl : Sem Bool} {Q : Value × List Value → Shared → Prop} (I : Inv X pins σ H s) (e : H a = some (.ins C dx fs)) (c : Cls X.K C) (k : Meth X.K C m g) (l : fs.lookup m = none)
    (h : Q (.ref g, [.ref a]) s) : wpAny (model X.prog X.w) A (getMethod (.ref a) m pl) Q E s := by
  obtain ⟨mA, O, r, _, _, _⟩ := ins_get I.hok e
  have hn : mA m = none := RelO.none_of (by rw [← l]; exact r m)
  exact get_meth I.kIn O (c.get m) k.at_ k.fn hn h

theorem setattr_ok {y : V} {u : Value} {Q : Unit → Shared → Prop} (I : Inv X pins σ H s) (e : H a = some (.ins C dx fs)) (c : Cls X.K C) (n : NoAttr X.K C f) (hl : fs.length < 1000) (ry : RelV y u)
    (h : ∀ s', Inv X pins σ (upd H a (.ins C dx (putF f y fs))) s' → Q () s') : wpAny (model X.prog X.w) A (setAttr (.ref a) f u) Q E s := by
  obtain ⟨mA, O, r, wi, _, ho⟩ := ins_get I.hok e
  have hz : (fs.map (·.1)).length ≤ sizeLine := by rw [List.length_map, sizeLine_eq]; omega
  refine set_map I.kIn O c.sa c.po n.taker c.hd wi hz fun h' O' sb => h _ ?_
  have hd : ∃ o, h'.get? dx = some o := let ⟨o, _, _, e', _⟩ := O'.ns; ⟨o, e'⟩
  refine I.write (x := a) (e := dx) (by rw [e]; exact True.intro) (.inr ho) (fun b q hb z => (sb.2 b hb).trans z) hd ?_
  refine ⟨by rw [upd_ne O.ne]; exact ho, ?_, O.ne, O'.obj, _, O'.ns, fun g => ?_, fun g hg => ?_⟩
  · have := length_putF f y fs; omega
  · show RelO ((putF f y fs).lookup g) (if g = f then some u else mA g)
    rw [lookup_putF]
    by_cases q : g = f
    · rw [if_pos q, if_pos q]; exact ry
    · rw [if_neg q, if_neg q]; exact r g
  · by_cases q : g = f
    · rw [q]; exact (keys_putF f y fs).1
    · refine (keys_putF f y fs).2 g (wi g fun z => hg ?_)
      show (if g = f then some u else mA g) = none
      rw [if_neg q]; exact z

/-- a new instance, tracked, without attributes -/
theorem Inv.made (I : Inv X pins σ H s) : Inv X pins σ (upd (upd H s.heap.objs.size (.own (s.heap.objs.size + 1))) (s.heap.objs.size + 1) (.ins C s.heap.objs.size []))
    { s with heap := (s.heap.push PySem.W.emptyDict).push (PySem.W.instObj C s.heap.objs.size) } := by
  have e1 : (s.heap.push PySem.W.emptyDict).get? s.heap.objs.size = some PySem.W.emptyDict := Heap.get?_push_size s.heap rfl
  have e2 : ((s.heap.push PySem.W.emptyDict).push (PySem.W.instObj C s.heap.objs.size)).get? (s.heap.objs.size + 1) = some (PySem.W.instObj C s.heap.objs.size) := by
    have := Heap.get?_push_size (s.heap.push PySem.W.emptyDict) (o := PySem.W.instObj C s.heap.objs.size) rfl
    rwa [Heap.size_push] at this
  have e3 : (s.heap.push PySem.W.emptyDict).Ns s.heap.objs.size (fun _ => none) := ⟨PySem.W.emptyDict, #[], _, e1, rfl, (fun e he => absurd he (by simp)), fun _ => rfl⟩
  have I1 := I.laid (a := s.heap.objs.size) (o := .own (s.heap.objs.size + 1)) (h' := s.heap.push PySem.W.emptyDict) (t' := s.toks) (fun b u q => Heap.get?_push_of_some _ q) (Nat.le_refl _) ⟨_, e1⟩
  refine I1.laid (a := s.heap.objs.size + 1) (o := .ins C s.heap.objs.size []) (t' := s.toks) (fun b u q => Heap.get?_push_of_some _ q) (Nat.le_of_eq (Heap.size_push _ _)) ?_
  have ne : s.heap.objs.size ≠ s.heap.objs.size + 1 := Nat.ne_of_lt (Nat.lt_succ_self _)
  refine ⟨by rw [upd_ne ne, upd_same], Nat.zero_le _, ne, e2, fun _ => none, (Heap.Ns1.of_empty e3).at fun o q => Heap.get?_push_of_some _ q, fun _ => True.intro, fun y hy => absurd rfl hy⟩

/-- e.f where nothing but the object is asked: through attributeBase (super) and the last hold -/
theorem attr_of {prog : Program} {w : World} {env : Env} {e : Expr} {f : Str} {pos : Pos} {s : Shared} {Q : Value → Shared → Prop} (hb : attributeBase e f env (eval e env) = eval e env)
    (h : wpAny (model prog w) A (eval e env) (fun o s₁ => wpAny (model prog w) A (getAttr o f true) Q E s₁) E s) : wpAny (model prog w) A (eval (.Attribute e f pos) env) Q E s :=
  Attribute_any_ h (by rw [arm_eval_Attribute, hb])
end

/-! ### readings and rules -/
/-- e.f, an attribute of the instance -/
def tFld (K : PySem.W.Frag) (ta : TE) (f : Str) : TE := fun σ H Q => ta σ H fun x H1 => ∃ a C dx fs v, x = .ref a ∧ H1 a = some (.ins C dx fs) ∧ Cls K C ∧ NoAttr K C f ∧ fs.lookup f = some v ∧ Q v H1
/-- e.f, a constant of the class -/
def tCon (K : PySem.W.Frag) (ta : TE) (f : Str) : TE := fun σ H Q => ta σ H fun x H1 => ∃ a C dx fs v u, x = .ref a ∧ H1 a = some (.ins C dx fs) ∧ Cls K C ∧ Con K C f v u ∧ fs.lookup f = none ∧ Q v H1
/-- e.f = value -/
def sFld (K : PySem.W.Frag) (ta tv : TE) (f : Str) : TS := fun D σ H => tv σ H fun y H1 => ta σ H1 fun x H2 => ∃ a C dx fs, x = .ref a ∧ H2 a = some (.ins C dx fs) ∧ Cls K C ∧ NoAttr K C f ∧ fs.length < 1000 ∧
  D.nx σ (upd H2 a (.ins C dx (putF f y fs)))
/-- an augmented operator on two values -/
def InOp (X : Cx) (op : Operator) (rd : V → V → Hp → VK → Prop) : Prop :=
  ∀ (pins : List (Addr × Obj)) (s : Shared) (σ : St) (H : Hp) (x y : V) (u v : Value) (Q : VK), Inv X pins σ H s → RelV x u → RelV y v → rd x y H Q → wpAny (model X.prog X.w) X.A (inplaceOp op u v) (EP X pins σ Q) X.xe s
/-- e.f op= value -/
def sFldAug (K : PySem.W.Frag) (ta tv : TE) (rd : V → V → Hp → VK → Prop) (f : Str) : TS := fun D σ H => ta σ H fun x H1 => ∃ a C dx fs v, x = .ref a ∧ H1 a = some (.ins C dx fs) ∧ Cls K C ∧ NoAttr K C f ∧ fs.lookup f = some v ∧
  tv σ H1 fun y H2 => rd v y H2 fun z H3 => ∃ dx' fs', H3 a = some (.ins C dx' fs') ∧ fs'.length < 1000 ∧ D.nx σ (upd H3 a (.ins C dx' (putF f z fs')))

section
variable {X : Cx} {o e value : Expr} {f : Str} {pos pos' tpos : Pos} {ta tv : TE}
theorem pe_fld (he : PE X e ta) (hb : attributeBase e f X.env (eval e X.env) = eval e X.env) : PE X (.Attribute e f pos) (tFld X.K ta f) := by
  intro pins s σ H Q I h
  refine attr_of hb (thn (he pins s σ H _ I h) fun u s1 ⟨x, H1, I1, rx, a, C, dx, fs, v, ex, ea, c, n, l, q⟩ => ?_)
  subst ex
  obtain rfl : u = Value.ref a := rx
  exact getattr_ok I1 ea c n l fun u' s2 I2 ru => ⟨v, H1, I2, ru, q⟩
theorem ps_fld (ha : PE X o ta) (hv : PE X value tv) (hs : swapsWith value (some (.Attribute o f pos')) pos.line X.env = pure false) : PS X (.Assign [.Attribute o f pos'] value pos) (sFld X.K ta tv f) := by
  intro pins s σ H D I h
  refine plainObj_wpAny_Assign_Attribute (thn (hv pins s σ H _ I h) fun u s1 ⟨y, H1, I1, ry, q⟩ => thn (ha pins s1 σ H1 _ I1 q) fun ov s2 ⟨x, H2, I2, rx, a, C, dx, fs, ex, ea, c, n, l, q2⟩ => ?_) hs
  subst ex
  obtain rfl : ov = Value.ref a := rx
  exact setattr_ok I2 ea c n l ry fun s3 I3 => ⟨σ, _, I3, q2⟩
def rAdd : V → V → Hp → VK → Prop := fun x y H Q => ∃ i j, x = .int i ∧ y = .int j ∧ Q (.int (i + j)) H
def rSub : V → V → Hp → VK → Prop := fun x y H Q => ∃ i j, x = .int i ∧ y = .int j ∧ Q (.int (i - j)) H
/-- what is between an instance and its method: the tree of a method call -/
theorem methcall_of {pl : Sem Bool} {m : Str} {apos : Pos} {args : List Expr} {pins : List (Addr × Obj)} {s : Shared} {σ : St} {H : Hp} {Q : Value → Shared → Prop} {te : TE} (he : PE X e te) (I : Inv X pins σ H s)
    (h : te σ H fun x H1 => ∃ a C dx fs g, x = .ref a ∧ H1 a = some (.ins C dx fs) ∧ Cls X.K C ∧ Meth X.K C m g ∧ fs.lookup m = none ∧
      ∀ s1, Inv X pins σ H1 s1 → wpAny (model X.prog X.w) X.A (callWith pos (.ref g) [.ref a] (backTo pos (starEach args X.env)) (backToKw pos (keywordEach [] X.env))) Q X.xe s1)
    (ht : eval (.Call (.Attribute e m apos) args [] pos) X.env = (do
      let ov ← eval e X.env
      standAt apos.atName
      let (f, first) ← holding [ov] (getMethod ov m pl)
      callWith pos f first (backTo pos (starEach args X.env)) (backToKw pos (keywordEach [] X.env)))) :
    wpAny (model X.prog X.w) X.A (eval (.Call (.Attribute e m apos) args [] pos) X.env) Q X.xe s := by
  refine PySem.W.methodCall_KW (pl := pl) (thn (he pins s σ H _ I h) fun u s1 ⟨x, H1, I1, rx, a, C, dx, fs, g, ex, ea, c, k, l, q⟩ => ?_) ht
  subst ex
  obtain rfl : u = Value.ref a := rx
  exact getmeth_ok I1 ea c k l (q s1 I1)
end

/-! ### isinstance -/
section
variable {X : Cx} {pins : List (Addr × Obj)} {σ : St} {H : Hp} {s : Shared} {A : Around} {E : Value → Shared → Prop} {Q : Value → Shared → Prop} {c : Value} {b : Bool}
/-- the type of a value, as the fragment's deciders take it; for an instance its class -/
inductive TyOf (K : PySem.W.Frag) (H : Hp) : V → Value → Prop where
  | non : TyOf K H .non (.type "NoneType")
  | bl (x : Bool) : TyOf K H (.bl x) (.type "bool")
  | int (i : Int) : TyOf K H (.int i) (.type "int")
  | str (x : Str) : TyOf K H (.str x) (.type "str")
  | flt (x : UInt64) : TyOf K H (.flt x) (.type "float")
  | lst {a : Addr} {xs : List V} (e : H a = some (.lst xs)) : TyOf K H (.ref a) (.type "list")
  | frz {a : Addr} {o : Obj} {xs : List V} (e : H a = some (.frz o (.lst xs))) : TyOf K H (.ref a) (.type "list")
  | tup {a : Addr} {xs : List V} (e : H a = some (.tup xs)) : TyOf K H (.ref a) (.type "tuple")
  | dK {a : Addr} {kvs : List (Key × V)} (e : H a = some (.dK kvs)) : TyOf K H (.ref a) (.type "dict")
  | dT {a : Addr} {kvs : List (List Key × V)} (e : H a = some (.dT kvs)) : TyOf K H (.ref a) (.type "dict")
  | ins {a C dx : Addr} {fs : List (Str × V)} (e : H a = some (.ins C dx fs)) (cl : Cls K C) (ha : PySem.W.findIn K (.ref C) "__class__" = some (some (.builtin "object.__class__")))
      (hn : PySem.W.specialIn K (.builtin "object.__class__") "__get__" = some (some (.builtin "getset_descriptor.__get__"))) (htk : PySem.W.takesIn K (.builtin "object.__class__") = some true)
      (hm : PySem.W.mroIn K C (.type "object") = some true) : TyOf K H (.ref a) (.ref C)
/-- isinstance(x, c) for one class c, a built-in or an own one: kitOne's answer -/
theorem isinst_ok {x : V} {u t : Value} (I : Inv X pins σ H s) (rx : RelV x u) (ty : TyOf X.K H x t) (e : PySem.W.kitOne X.K t c = some b) (h : ∀ tk, Q (.bool b) { s with toks := tk }) :
    wpAny (model X.prog X.w) A (call (.builtin "isinstance") [u, c]) Q E s := by
  cases ty with
  | non => cases (show u = Value.none from rx); exact PySem.W.kia_one PySem.W.kitx_none I.kIn True.intro e (fun z => nomatch z) h
  | bl y => cases (show u = Value.bool y from rx); exact PySem.W.kia_one PySem.W.kitx_bool I.kIn True.intro e (fun z => nomatch z) h
  | int i => obtain ⟨t, q⟩ := (show ∃ t, u = Value.int i t from rx); cases q; exact PySem.W.kia_one PySem.W.kitx_int I.kIn True.intro e (fun z => nomatch z) h
  | str y => obtain ⟨t, q⟩ := (show ∃ t, u = Value.str y t from rx); cases q; exact PySem.W.kia_one PySem.W.kitx_str I.kIn True.intro e (fun z => nomatch z) h
  | flt y => obtain ⟨t, q⟩ := (show ∃ t, u = Value.float y t from rx); cases q; exact PySem.W.kia_one PySem.W.kitx_float I.kIn True.intro e (fun z => nomatch z) h
  | @lst a xs ea =>
    cases (show u = Value.ref a from rx)
    obtain ⟨_, _, n, _, h1⟩ := (show ObjOk X.prog X.w H s.heap a (.lst xs) from I.hok a _ ea)
    exact PySem.W.kia_one PySem.W.kitx_list I.kIn ⟨_, h1, rfl⟩ e (fun z => nomatch z) h
  | @frz a ob xs ea =>
    cases (show u = Value.ref a from rx)
    obtain ⟨_, _, _, n, _, h1⟩ := (show ObjOk X.prog X.w H s.heap a (.frz ob (.lst xs)) from I.hok a _ ea)
    exact PySem.W.kia_one PySem.W.kitx_list I.kIn ⟨_, h1, rfl⟩ e (fun z => nomatch z) h
  | @tup a xs ea =>
    cases (show u = Value.ref a from rx)
    obtain ⟨_, _, _, p⟩ := (show ObjOk X.prog X.w H s.heap a (.tup xs) from I.hok a _ ea)
    obtain ⟨o, h1, h2, _⟩ := p
    exact PySem.W.kia_one PySem.W.kitx_tuple I.kIn ⟨o, h1, h2⟩ e (fun z => nomatch z) h
  | @dK a kvs ea =>
    cases (show u = Value.ref a from rx)
    obtain ⟨_, _, vs, _, p⟩ := (show ObjOk X.prog X.w H s.heap a (.dK kvs) from I.hok a _ ea)
    obtain ⟨o, es, ep, h1, h2, _⟩ := p
    exact PySem.W.kia_one PySem.W.kitx_dict I.kIn ⟨o, h1, h2.1⟩ e (fun z => nomatch z) h
  | @dT a kvs ea =>
    cases (show u = Value.ref a from rx)
    obtain ⟨_, _, xs, _, o, es, ep, h1, h2, _⟩ := (show ObjOk X.prog X.w H s.heap a (.dT kvs) from I.hok a _ ea)
    exact PySem.W.kia_one PySem.W.kitx_dict I.kIn ⟨o, h1, h2.1⟩ e (fun z => nomatch z) h
  | @ins a C dx fs ea cl ha hn htk hm =>
    cases (show u = Value.ref a from rx)
    obtain ⟨mA, O, _⟩ := ins_get I.hok ea
    obtain ⟨od, J, _⟩ := O.look
    exact PySem.W.kia_one (PySem.W.kitx_own (cl.get _) cl.hd ha hn htk hm) I.kIn J e (fun z => nomatch z) h
end
end L2

namespace L2
open PySem PySem.Spec PyProof.Rows

/-! ### room -/
structure Room (k : Nat) (A : Around) : Prop where
  hd : A.handled = none
  dp : A.depth + 3 * k + 5 < recursionLimit
  un : A.units + 16 * k + 200 < cLine
theorem Room.mono {j k : Nat} {A : Around} (r : Room k A) (h : j ≤ k) : Room j A := ⟨r.hd, by have := r.dp; omega, by have := r.un; omega⟩
theorem Room.deeper {k : Nat} {A : Around} (r : Room (k + 1) A) (env : Env) : Room k (A.deeper env) :=
  ⟨r.hd, by have := r.dp; show A.depth + 1 + 3 * k + 5 < _; omega, by have := r.un; show A.units + 3 + 16 * k + 200 < _; omega⟩
theorem make_depth {A : Around} {C : Addr} {us : List Value} {kw : List (Str × Value)} : (A.under (.builtin "type.__call__" ⟨.ref C :: us, kw⟩)).depth = A.depth + 1 := by
  first | rfl | simp [Around.under, Code.weight, Code.isCreation, Code.isGuard, Code.isCaller, Code.frames, Code.isFrame, guardIds]
theorem make_units {A : Around} {C : Addr} {us : List Value} {kw : List (Str × Value)} : (A.under (.builtin "type.__call__" ⟨.ref C :: us, kw⟩)).units = A.units + 1 := by
  first | rfl | simp [Around.under, Code.cUnits, Code.frames, Code.isFrame]
theorem Room.make {k : Nat} {A : Around} (r : Room (k + 1) A) (C : Addr) (us : List Value) (kw : List (Str × Value)) : Room k (A.under (.builtin "type.__call__" ⟨.ref C :: us, kw⟩)) :=
  ⟨r.hd, by have := r.dp; rw [make_depth]; omega, by have := r.un; rw [make_units]; omega⟩
theorem Room.depth {k : Nat} {A : Around} (r : Room k A) : A.depth < recursionLimit := by have := r.dp; omega
theorem Room.units {k : Nat} {A : Around} (r : Room k A) : A.units + 64 < cLine := by have := r.un; omega
/-! ### argument lists and displays -/
def tNil : TA := fun _ H Q => Q [] H
def tCons (ta : TE) (tr : TA) : TA := fun σ H Q => ta σ H fun x H1 => tr σ H1 fun xs H2 => Q (x :: xs) H2
section
variable {X : Cx} {e : Expr} {es : List Expr} {te : TE} {t : TA} {pos : Pos}
theorem pa_nil : PA X [] tNil := fun _ _ _ _ H Q I h => Calls.spliced_nil ⟨[], H, I, .nil, h⟩
theorem pa_cons (ha : PE X e te) (hr : PA X es t) (hs : starEach (e :: es) X.env = (false, eval e X.env) :: starEach es X.env := by rfl) : PA X (e :: es) (tCons te t) := by
  intro pos pins s σ H Q I h
  rw [hs]
  show wpAny _ _ (spliced ((false, eval e X.env) :: backTo pos (starEach es X.env))) _ _ s
  refine Calls.spliced_cons (thn (ha pins s σ H _ I h) fun u s1 ⟨x, H1, I1, r1, q1⟩ => ?_)
  exact thn (hr pos pins s1 σ H1 _ I1 q1) fun us s2 ⟨xs, H2, I2, r2, q2⟩ => ⟨x :: xs, H2, I2, .cons r1 r2, q2⟩

/-- a tuple, a list of written items -/
def tTup (t : TA) : TE := fun σ H Q => t σ H fun xs H1 => xs.length ≤ sizeLine ∧ ∀ p, H1 p = none → Q (.ref p) (upd H1 p (.tup xs))
def tLst (t : TA) : TE := fun σ H Q => t σ H fun xs H1 => xs.length ≤ sizeLine ∧ ∀ p, H1 p = none → Q (.ref p) (upd H1 p (.lst xs))
theorem pe_tup {x1} (h : PA X es t) : PE X (.Tuple es x1 pos) (tTup t) := by
  intro pins s σ H Q I hq
  refine wpAny_Tuple_spliced (thn (h pos pins s σ H _ I hq) fun us s1 ⟨xs, H1, I1, r, z, q⟩ => ⟨by rw [← r.length]; exact z, ?_⟩)
  have hf : H1 s1.heap.objs.size = none := I1.hok.fresh (Nat.le_refl _)
  refine ⟨.ref s1.heap.objs.size, upd H1 s1.heap.objs.size (.tup xs), I1.laid (t' := s1.toks) (fun b u e => Heap.get?_push_of_some _ e) (Nat.le_refl _) ?_, rfl, q _ hf⟩
  exact ⟨z, us, r, ⟨_, Heap.get?_push_size _ rfl, rfl, _, rfl⟩⟩
theorem pe_lst (h : PA X es t) : PE X (.List es pos) (tLst t) := by
  intro pins s σ H Q I hq
  refine wpAny_List_spliced (thn (h pos pins s σ H _ I hq) fun us s1 ⟨xs, H1, I1, r, z, q⟩ => ⟨by rw [← r.length]; exact z, ?_⟩)
  have hf : H1 s1.heap.objs.size = none := I1.hok.fresh (Nat.le_refl _)
  refine ⟨.ref s1.heap.objs.size, upd H1 s1.heap.objs.size (.lst xs), I1.laid (t' := s1.toks) (fun b u e => Heap.get?_push_of_some _ e) (Nat.le_refl _) ?_, rfl, q _ hf⟩
  exact ⟨z, us, 0, r, Heap.get?_push_size _ rfl⟩
end

/-! ### what a def promises -/
/-- a def's promise: the bound arguments in the parameters' order, the heap, the wanted end, the wanted exception -/
abbrev Sp := List V → Hp → VK → XK → Prop
/-- how an exception lies behind a call (file 08 gives it): the callers' frames, abstract heap and state ahead of the call, the wish, the exception, the state -/
abbrev CXT := List Env → Hp → Shared → XK → Value → Shared → Prop

/-- the state at a call -/
structure Env0 (P : Program) (w : World) (K : PySem.W.Frag) (mg : Str → Option Value) (base : Heap) (A : Around) (outer : List Env) (s : Shared) (H : Hp) : Prop where
  frames : A.frames = some outer
  mod : Mod K mg base
  bs : ∀ b o, base.get? b = some o → s.heap.get? b = some o ∧ H b = none
  bsz : base.objs.size ≤ s.heap.objs.size
  funs : s.heap.FunFrames base outer
  frf : ∀ b ∈ frs outer, H b = none
  hok : HOk P w H s.heap
  bare : AllBare s.gens
/-- a call's end -/
def CE (outer : List Env) (P : Program) (w : World) (H : Hp) (s : Shared) (Q : VK) (u : Value) (s' : Shared) : Prop :=
  ∃ v H', s'.os = s.os ∧ AllBare s'.gens ∧ Un (frs outer) [] H H' s.heap s'.heap ∧ HOk P w H' s'.heap ∧ RelV v u ∧ Q v H'
def CR (CX : CXT) (outer : List Env) (P : Program) (w : World) (H : Hp) (s : Shared) (Q : VK) (E : XK) (r : Result) (s' : Shared) : Prop :=
  match r with
  | .ok (.ret u) => CE outer P w H s Q u s'
  | .ok _ => False
  | .error e => CX outer H s E e s'
structure FnOk (P : Program) (w : World) (K : PySem.W.Frag) (mg : Str → Option Value) (base : Heap) (CX : CXT) (k : Nat) (f : Addr) (fd : FuncData) (ps : List Str) (sp : Sp) : Prop where
  len : ∀ vs H Q E, sp vs H Q E → vs.length = ps.length
  run : ∀ (A : Around) (outer : List Env) (s : Shared) (H : Hp) (args : Args) (us : List Value) (vs : List V) (Q : VK) (E : XK), Room k A → Env0 P w K mg base A outer s H → BindsTo s fd args (ps.zip us) → Vals vs us → sp vs H Q E →
    codeAny (model P w) A (.call (.ref f) args) (CR CX outer P w H s Q E) s
theorem FnOk.mono {P : Program} {w : World} {K : PySem.W.Frag} {mg : Str → Option Value} {base : Heap} {CX : CXT} {j k : Nat} {f : Addr} {fd : FuncData} {ps : List Str} {sp : Sp} (F : FnOk P w K mg base CX j f fd ps sp) (h : j ≤ k) :
    FnOk P w K mg base CX k f fd ps sp := ⟨F.len, fun A outer s H args us vs Q E hr => F.run A outer s H args us vs Q E (hr.mono h)⟩
theorem Env0.make {P : Program} {w : World} {K : PySem.W.Frag} {mg : Str → Option Value} {base : Heap} {A : Around} {outer : List Env} {s : Shared} {H : Hp} (e : Env0 P w K mg base A outer s H) (C : Addr) (us : List Value) (kw : List (Str × Value)) :
    Env0 P w K mg base (A.under (.builtin "type.__call__" ⟨.ref C :: us, kw⟩)) outer s H := ⟨by first | exact e.frames | (simpa [Around.under, Code.envs, Code.isFrame, pushEnvs] using e.frames), e.mod, e.bs, e.bsz, e.funs, e.frf, e.hok, e.bare⟩
section
variable {X : Cx} {pins : List (Addr × Obj)} {σ : St} {H : Hp} {s s' : Shared}
/-- from a body: what a callee wants -/
theorem Inv.env0 (I : Inv X pins σ H s) : Env0 X.prog X.w X.K X.mg X.base X.A X.stack s H :=
  ⟨I.ok.frames, I.ok.mod, I.bs, Nat.le_trans I.ok.bsz I.sz, I.stack, I.stkFree, I.hok, I.bare⟩
/-- behind a call -/
theorem Inv.after {Q : VK} {u : Value} (I : Inv X pins σ H s) (h : CE X.stack X.prog X.w H s Q u s') : EP X pins σ Q u s' := by
  obtain ⟨v, H', os, bare, un, hok, r, q⟩ := h
  obtain ⟨hh, g, d, t, os'⟩ := s'
  obtain rfl : os' = s.os := os
  exact ⟨v, H', I.call (h' := hh) (g' := g) (d' := d) (t' := t) (ch := []) un hok bare (fun b z => absurd z (by simp)), r, q⟩
end

/-! ### calls -/
/-- f(..): the written arguments, then the defaults dvs; E: what is wanted of an exception -/
def tCall (sp : Sp) (dvs : List V) (E : XK) (t : TA) : TE := fun σ H Q => t σ H fun vs H1 => sp (vs ++ dvs) H1 Q E
/-- o.m(..) of an instance of the class at C -/
def tMeth (C : Addr) (m : Str) (sp : Sp) (dvs : List V) (E : XK) (ta : TE) (t : TA) : TE := fun σ H Q => ta σ H fun x H1 => ∃ a dx fs, x = .ref a ∧ H1 a = some (.ins C dx fs) ∧ fs.lookup m = none ∧
  t σ H1 fun vs H2 => sp (x :: (vs ++ dvs)) H2 Q E
/-- C(..): a new instance and its dict, then __init__ -/
def tMake (C : Addr) (sp : Sp) (dvs : List V) (E : XK) (t : TA) : TE := fun σ H Q => t σ H fun vs H1 => ∀ x dx, H1 x = none → H1 dx = none → dx ≠ x →
  sp (.ref x :: (vs ++ dvs)) (upd (upd H1 dx (.own x)) x (.ins C dx [])) (fun v H2 => v = .non ∧ Q (.ref x) H2) E

/-- how the parameters are bound: us the positional arguments, kw the keywords' values by name, ds the defaults that fill up -/
def Binds (K : PySem.W.Frag) (fd : FuncData) (ps : List Str) (ds : List Value) : Prop :=
  ∀ (s : Shared) (us : List Value), K.In s.heap → (us ++ ds).length = ps.length → BindsTo s fd ⟨us, []⟩ (ps.zip (us ++ ds))
/-- every parameter is given -/
theorem Binds.all {K : PySem.W.Frag} {fd : FuncData} {ps : List Str} (h : ∀ us : List Value, us.length = ps.length → bindArgs fd ⟨us, []⟩ = pure (ps.zip us)) : Binds K fd ps [] := fun s us _ hl => by
  rw [List.append_nil] at hl ⊢
  exact .of_eq (h us hl)

/-- an exception of a callee reaches what this body wants of exceptions -/
def Passes (CX : CXT) (X : Cx) (E : XK) : Prop := ∀ (pins : List (Addr × Obj)) (σ : St) (H : Hp) (s : Shared) (e : Value) (s' : Shared), Inv X pins σ H s → CX X.stack H s E e s' → X.xe e s'

section
variable {X : Cx} {CX : CXT} {k : Nat} {f C : Addr} {fd : FuncData} {ps : List Str} {sp : Sp} {dvs : List V} {ds : List Value} {E : XK} {x m : Str} {p pos apos : Pos} {e o : Expr} {es : List Expr} {ta : TE} {t : TA}

/-- the callee runs -/
theorem run_fn {pins : List (Addr × Obj)} {σ : St} {H : Hp} {s : Shared} {Q : VK} {us : List Value} {vs : List V} (F : FnOk X.prog X.w X.K X.mg X.base CX k f fd ps sp) (hr : Room k X.A) (hb : Binds X.K fd ps ds) (hd : Vals dvs ds) (hx : Passes CX X E)
    (I : Inv X pins σ H s) (r : Vals vs us) (h : sp (vs ++ dvs) H Q E) : wpAny (model X.prog X.w) X.A (call (.ref f) us) (EP X pins σ Q) X.xe s := by
  have r2 : Vals (vs ++ dvs) (us ++ ds) := r.append hd
  have hl : (us ++ ds).length = ps.length := by rw [← r2.length]; exact F.len _ _ _ _ h
  refine wpAny_call (codeAny_mono (F.run X.A X.stack s H ⟨us, []⟩ (us ++ ds) (vs ++ dvs) Q E hr I.env0 (hb s us I.kIn hl) r2 h) fun r s' hq => ?_)
  cases r with
  | error e => exact hx pins σ H s e s' I hq
  | ok fl =>
    cases fl with
    | ret u => exact I.after hq
    | next => exact False.elim hq
    | brk => exact False.elim hq
    | cont => exact False.elim hq

theorem pe_call (F : FnOk X.prog X.w X.K X.mg X.base CX k f fd ps sp) (hr : Room k X.A) (hg : Gl X x) (hm : X.mg x = some (.ref f)) (hk : PySem.W.keepIn X.K (.ref f) = true) (hb : Binds X.K fd ps ds) (hd : Vals dvs ds) (hx : Passes CX X E)
    (ha : PA X (e :: es) t) (hdb : (x == ("__debug__" : Str)) = false := by decide) (he : starEach (e :: es) X.env = (false, eval e X.env) :: starEach es X.env := by rfl) (hpl : (backTo pos (starEach es X.env)).any (·.1) = false := by rfl) :
    PE X (.Call (.Name x p) (e :: es) [] pos) (tCall sp dvs E t) := by
  intro pins s σ H Q I h
  refine wpAny_Call_Name_kw (ld_glob I hg hm ?_ hdb)
  refine PySem.W.callWith_K (h₀ := X.base) I.ok.mod.kin hk (thn (ha pos pins s σ H _ I h) fun us s1 ⟨vs, H1, I1, r, q⟩ => ⟨I1.kIn, ?_⟩) he hpl
  exact run_fn F hr hb hd hx I1 r q
/-- o.m(e, ..) -/
theorem pe_meth {pl : Sem Bool} (he : PE X o ta) (c : Cls X.K C) (hm : Meth X.K C m f) (F : FnOk X.prog X.w X.K X.mg X.base CX k f fd ps sp) (hr : Room k X.A) (hb : Binds X.K fd ps ds) (hd : Vals dvs ds) (hx : Passes CX X E) (ha : PA X (e :: es) t)
    (hst : starEach (e :: es) X.env = (false, eval e X.env) :: starEach es X.env := by rfl) (hpl : (backTo pos (starEach es X.env)).any (·.1) = false := by rfl)
    (ht : eval (.Call (.Attribute o m apos) (e :: es) [] pos) X.env = (do
      let ov ← eval o X.env
      standAt apos.atName
      let (f, first) ← holding [ov] (getMethod ov m pl)
      callWith pos f first (backTo pos (starEach (e :: es) X.env)) (backToKw pos (keywordEach [] X.env))) := by rfl) :
    PE X (.Call (.Attribute o m apos) (e :: es) [] pos) (tMeth C m sp dvs E ta t) := by
  intro pins s σ H Q I h
  refine PySem.W.methodCall_KW (pl := pl) (thn (he pins s σ H _ I h) fun u s1 ⟨x, H1, I1, rx, a, dx, fs, ex, ea, l, q⟩ => ?_) ht
  subst ex
  obtain rfl : u = Value.ref a := rx
  refine getmeth_ok I1 ea c hm l ?_
  refine PySem.W.callWith_K (first := [.ref a]) (h₀ := X.base) I.ok.mod.kin hm.kp (thn (ha pos pins s1 σ H1 _ I1 q) fun us s2 ⟨vs, H2, I2, r, q2⟩ => ⟨I2.kIn, ?_⟩) hst hpl
  exact run_fn (us := .ref a :: us) (vs := .ref a :: vs) F hr hb hd hx I2 (.cons rfl r) q2
/-- what a class must have to be made -/
structure Mk (K : PySem.W.Frag) (C f : Addr) : Prop where
  makes : PySem.W.makesIn K C = true
  init : PySem.W.findIn K (.ref C) "__init__" = some (some (.ref f))
  fn : PySem.W.isFn K (.ref f) = true
  kp : PySem.W.keepIn K (.ref C) = true

theorem run_make {pins : List (Addr × Obj)} {σ : St} {H : Hp} {s : Shared} {Q : VK} {us : List Value} {vs : List V} (M : Mk X.K C f) (F : FnOk X.prog X.w X.K X.mg X.base CX k f fd ps sp) (hr : Room (k + 1) X.A) (hb : Binds X.K fd ps ds) (hd : Vals dvs ds)
    (hx : Passes CX X E) (I : Inv X pins σ H s) (r : Vals vs us)
    (h : ∀ x dx, H x = none → H dx = none → dx ≠ x → sp (.ref x :: (vs ++ dvs)) (upd (upd H dx (.own x)) x (.ins C dx [])) (fun v H2 => v = .non ∧ Q (.ref x) H2) E) :
    wpAny (model X.prog X.w) X.A (call (.ref C) us) (EP X pins σ Q) X.xe s := by
  have hq := h (s.heap.objs.size + 1) s.heap.objs.size (I.hok.fresh (Nat.le_succ _)) (I.hok.fresh (Nat.le_refl _)) (Nat.ne_of_lt (Nat.lt_succ_self _))
  have I2 := Inv.made (C := C) I
  have r2 : Vals (V.ref (s.heap.objs.size + 1) :: (vs ++ dvs)) (Value.ref (s.heap.objs.size + 1) :: (us ++ ds)) := .cons rfl (r.append hd)
  have hl : (Value.ref (s.heap.objs.size + 1) :: us ++ ds).length = ps.length := by
    have e := r2.length
    rw [F.len _ _ _ _ hq] at e
    exact e.symm
  refine wpAny_call (make_map (f := f) I.kIn M.makes M.init (beq_iff_eq.mp M.fn) (codeAny_mono (F.run _ X.stack _ _ ⟨Value.ref (s.heap.objs.size + 1) :: us, []⟩ (Value.ref (s.heap.objs.size + 1) :: (us ++ ds)) _ _ E (hr.make C us [])
    (I2.env0.make C us []) (hb _ (Value.ref (s.heap.objs.size + 1) :: us) I2.kIn hl) r2 hq) fun r s' hq' => ?_))
  cases r with
  | error e => exact hx pins σ _ _ e s' I2 hq'
  | ok fl =>
    cases fl with
    | ret u =>
      obtain ⟨v, H', I3, rv, ev, q3⟩ := I2.after hq'
      subst ev
      exact ⟨rv, ⟨V.ref (s.heap.objs.size + 1), H', I3, rfl, q3⟩⟩
    | next => exact False.elim hq'
    | brk => exact False.elim hq'
    | cont => exact False.elim hq'
theorem pe_make (M : Mk X.K C f) (F : FnOk X.prog X.w X.K X.mg X.base CX k f fd ps sp) (hr : Room (k + 1) X.A) (hg : Gl X x) (hm : X.mg x = some (.ref C)) (hb : Binds X.K fd ps ds) (hd : Vals dvs ds) (hx : Passes CX X E)
    (ha : PA X (e :: es) t) (hdb : (x == ("__debug__" : Str)) = false := by decide) (he : starEach (e :: es) X.env = (false, eval e X.env) :: starEach es X.env := by rfl) (hpl : (backTo pos (starEach es X.env)).any (·.1) = false := by rfl) :
    PE X (.Call (.Name x p) (e :: es) [] pos) (tMake C sp dvs E t) := by
  intro pins s σ H Q I h
  refine wpAny_Call_Name_kw (ld_glob I hg hm ?_ hdb)
  refine PySem.W.callWith_K (h₀ := X.base) I.ok.mod.kin M.kp (thn (ha pos pins s σ H _ I h) fun us s1 ⟨vs, H1, I1, r, q⟩ => ⟨I1.kIn, ?_⟩) he hpl
  exact run_make M F hr hb hd hx I1 r q
end

/-! ### keywords -/
/-- the values of the keywords, from the left -/
def PK (X : Cx) (kws : List Keyword) (t : TA) : Prop :=
  ∀ (pos : Pos) (pins : List (Addr × Obj)) (s : Shared) (σ : St) (H : Hp) (Q : List V → Hp → Prop), Inv X pins σ H s → t σ H Q → wpAny (model X.prog X.w) X.A (evalAll ((backToKw pos (keywordEach kws X.env)).map (·.2))) (AP X pins σ Q) X.xe s
section
variable {X : Cx} {CX : CXT} {k : Nat} {f C : Addr} {fd : FuncData} {ps ks : List Str} {sp : Sp} {E : XK} {x m : Str} {p pos apos kpos : Pos} {e o : Expr} {es : List Expr} {kws : List Keyword} {te ta : TE} {t tk : TA} {nm : Option Str}
/-- how a call with keywords binds: g puts the positional values us and the keywords' values ws (names ks) in the parameters' order, defaults among them -/
structure KBinds (K : PySem.W.Frag) (fd : FuncData) (ps ks : List Str) (g : List Value → List Value → List Value) (gV : List V → List V → List V) : Prop where
  to : ∀ (s : Shared) (us ws : List Value), K.In s.heap → (g us ws).length = ps.length → BindsTo s fd ⟨us, ks.zip ws⟩ (ps.zip (g us ws))
  rel : ∀ {vs : List V} {us : List Value} {zs : List V} {ws : List Value}, Vals vs us → Vals zs ws → Vals (gV vs zs) (g us ws)
def tCallK (sp : Sp) (gV : List V → List V → List V) (E : XK) (t tk : TA) : TE := fun σ H Q => t σ H fun vs H1 => tk σ H1 fun zs H2 => sp (gV vs zs) H2 Q E
variable {g : List Value → List Value → List Value} {gV : List V → List V → List V}
end

/-! ### a def's body keeps its promise -/
/-- names: the parameters first -/
structure FnScope (N P : List Str) (sc : Scope) : Prop where
  kind : sc.kind = .function
  co : sc.isCoroutine = false
  gen : sc.isGenerator = false
  nd : N.Nodup
  pre : N.take P.length = P
  par : ∀ x ∈ P, sc.names.lookup x = some .local ∨ sc.names.lookup x = some .cell
  nofree : ∀ y ∈ sc.names, y.2 ≠ .free

theorem bindL_out {kindOf : Str → Option NameKind} {x : Str} : ∀ {binds : List (Str × Value)} {m : Str → Option Value}, (∀ v, (x, v) ∉ binds) → bindL kindOf binds m x = m x
  | [], _, _ => rfl
  | (n, v) :: r, m, h => by
    unfold bindL
    rw [bindL_out fun w hw => h w (List.mem_cons_of_mem _ hw)]
    split
    · have : x ≠ n := by rintro rfl; exact h v List.mem_cons_self
      simp [this]
    · rfl
theorem bindC_out {kindOf : Str → Option NameKind} {x : Str} : ∀ {binds : List (Str × Value)} {m : Str → Option Value}, (∀ v, (x, v) ∉ binds) → bindC kindOf binds m x = m x
  | [], _, _ => rfl
  | (n, v) :: r, m, h => by
    unfold bindC
    rw [bindC_out fun w hw => h w (List.mem_cons_of_mem _ hw)]
    split
    · rfl
    · have : x ≠ n := by rintro rfl; exact h v List.mem_cons_self
      simp [this]
theorem bindL_get {kindOf : Str → Option NameKind} {x : Str} {v : Value} : ∀ {P : List Str} {vs : List Value} {i : Nat} {m : Str → Option Value}, P.Nodup → P[i]? = some x → vs[i]? = some v → kindOf x = some .local →
    bindL kindOf (P.zip vs) m x = some v
  | [], _, _, _, _, h, _, _ => by simp at h
  | _ :: _, [], _, _, _, _, h, _ => by simp at h
  | p :: P, w :: vs, 0, m, nd, h1, h2, hk => by
    simp at h1 h2; subst h1; subst h2
    show bindL kindOf ((p, w) :: P.zip vs) m p = _
    unfold bindL
    rw [bindL_out fun v hv => (List.nodup_cons.mp nd).1 (List.of_mem_zip hv).1, if_pos hk]
    simp
  | p :: P, w :: vs, i + 1, m, nd, h1, h2, hk => by
    show bindL kindOf ((p, w) :: P.zip vs) m x = _
    unfold bindL
    exact bindL_get (i := i) (List.nodup_cons.mp nd).2 (by simpa using h1) (by simpa using h2) hk
theorem bindC_get {kindOf : Str → Option NameKind} {x : Str} {v : Value} : ∀ {P : List Str} {vs : List Value} {i : Nat} {m : Str → Option Value}, P.Nodup → P[i]? = some x → vs[i]? = some v → kindOf x ≠ some .local →
    bindC kindOf (P.zip vs) m x = some v
  | [], _, _, _, _, h, _, _ => by simp at h
  | _ :: _, [], _, _, _, _, h, _ => by simp at h
  | p :: P, w :: vs, 0, m, nd, h1, h2, hk => by
    simp at h1 h2; subst h1; subst h2
    show bindC kindOf ((p, w) :: P.zip vs) m p = _
    unfold bindC
    rw [bindC_out fun v hv => (List.nodup_cons.mp nd).1 (List.of_mem_zip hv).1, if_neg hk]
    simp
  | p :: P, w :: vs, i + 1, m, nd, h1, h2, hk => by
    show bindC kindOf ((p, w) :: P.zip vs) m x = _
    unfold bindC
    exact bindC_get (i := i) (List.nodup_cons.mp nd).2 (by simpa using h1) (by simpa using h2) hk

/-- the names' values at the entry -/
def start (N : List Str) (vs : List V) : St := vs.map some ++ List.replicate (N.length - vs.length) none

/-- the context of a def's body, at its entry; an exception leaves the frame, then lies as CX says -/
def cxOf (CX : CXT) (P : Program) (w : World) (K : PySem.W.Frag) (mg : Str → Option Value) (base : Heap) (N : List Str) (qual : Str) (scope : Scope) (f : Addr) (cd : Value) (A : Around) (outer : List Env) (s : Shared) (H : Hp) (E : XK) : Cx where
  prog := P
  w := w
  K := K
  mg := mg
  base := base
  A := A.deeper (envOfC qual scope s.heap.objs.size f cd)
  N := N
  s₀ := s
  H₀ := H
  env := envOfC qual scope s.heap.objs.size f cd
  outer := outer
  stack := envOfC qual scope s.heap.objs.size f cd :: outer
  ex := []
  calm := true
  fn := fun _ => true
  pn := []
  xe := fun e s' => wpAny (model P w) (A.deeper (envOfC qual scope s.heap.objs.size f cd)) (leaving (envOfC qual scope s.heap.objs.size f cd) e) (fun _ s'' => CX outer H s E e s'') (fun e' s'' => CX outer H s E e' s'') s'

theorem cell_has {sc : Scope} {n : Nat} {x : Str} (h : sc.names.lookup x = some .cell) : ∃ c, (cellsFrom n sc.names []).lookup x = some c := by
  have q := PySem.W.cellsFrom_some sc.names n [] (.inl h)
  exact Option.isSome_iff_exists.mp q

theorem inv_start {CX : CXT} {P : Program} {w : World} {K : PySem.W.Frag} {mg : Str → Option Value} {base : Heap} {N ps : List Str} {qual : Str} {scope : Scope} {f : Addr} {cd : Value} {A : Around} {outer : List Env} {s s1 : Shared} {H : Hp} {E : XK} {us : List Value} {vs : List V}
    (S : FnScope N ps scope) (hd : A.handled = none) (e0 : Env0 P w K mg base A outer s H) (hl : vs.length = ps.length) (r : Vals vs us)
    (x : InCallC s s.heap.objs.size (bindL (envOfC qual scope s.heap.objs.size f cd).kindOf (ps.zip us) fun _ => none) (cellsFrom (s.heap.objs.size + 1) scope.names []) (bindC (envOfC qual scope s.heap.objs.size f cd).kindOf (ps.zip us) fun _ => none) s1) :
    Inv (cxOf CX P w K mg base N qual scope f cd A outer s H E) [] (start N vs) H s1 := by
  have hpl : ps.length ≤ N.length := by have := congrArg List.length S.pre; rw [List.length_take] at this; omega
  obtain ⟨h1, tk, rfl, hk⟩ := x.done
  have noA : ∀ b : Addr, b ∉ (cxOf CX P w K mg base N qual scope f cd A outer s H E).ex := fun b z => absurd (show b ∈ ([] : List Addr) from z) (by simp)
  refine ⟨⟨e0.mod, S.kind, rfl, rfl, Nat.le_refl _, fun y z c h1 h2 => ?_, fun y hy => ?_, fun y c _ h => ?_, fun _ => hd, Around.frames_deeper e0.frames, .inr ⟨rfl, rfl⟩, fun b z => absurd z (noA b), e0.bs, e0.bsz, fun b _ _ => noA b, fun b z => absurd z (noA b), e0.funs, e0.frf⟩,
    rfl, e0.bare, Un.kept hk, ⟨_, x.toInCall.ns, fun i y v h1 h2 h3 => ?_⟩, fun y c h => ⟨_, x.cell y c h⟩, e0.hok.fresh (Nat.le_refl _), fun y c h => ?_, fun p hp => absurd (show p ∈ ([] : List (Addr × Obj)) from hp) (by simp), e0.hok.kept hk, ?_⟩
  · exact name_of_addr x.apart (PySem.mem_of_lookup h1) (PySem.mem_of_lookup h2)
  · have hy : scope.names.lookup y = some .cell ∨ scope.names.lookup y = some .free := hy
    rcases hy with hy | hy
    · exact cell_has hy
    · exact absurd rfl (S.nofree _ (PySem.mem_of_lookup hy))
  · exact Nat.le_of_lt (x.above y c (PySem.mem_of_lookup h))
  · have hi : i < vs.length := by
      unfold start at h2
      by_cases hi : i < vs.length
      · exact hi
      · rw [List.getElem?_append_right (by simpa using hi)] at h2
        rw [List.getElem?_replicate] at h2
        split at h2 <;> cases h2
    have ha : vs[i]? = some v := by
      unfold start at h2
      rw [List.getElem?_append_left (by simpa using hi), List.getElem?_map] at h2
      cases e : vs[i]? with
      | none => rw [e] at h2; cases h2
      | some a => rw [e] at h2; cases h2; rfl
    obtain ⟨u, hu, rv⟩ := r.get ha
    have hp : ps[i]? = some y := by
      rw [← S.pre, List.getElem?_take_of_lt (by omega)]; exact h1
    have ndP : ps.Nodup := by rw [← S.pre]; exact S.nd.sublist (List.take_sublist _ _)
    refine ⟨u, rv, ?_⟩
    rcases S.par y (List.mem_of_getElem? hp) with k | k
    · exact .inl ⟨k, bindL_get ndP hp hu k⟩
    · obtain ⟨c, e⟩ := cell_has (n := s.heap.objs.size + 1) k
      refine .inr ⟨.inl k, c, e, ?_⟩
      have q := x.cell y c e
      rw [bindC_get ndP hp hu (by show scope.names.lookup y ≠ _; rw [k]; decide)] at q
      exact q
  · exact e0.hok.fresh (Nat.le_of_lt (x.above y c (PySem.mem_of_lookup h)))
  · unfold start
    show _ = N.length
    rw [List.length_append, List.length_map, List.length_replicate]
    omega

/-- THE RULE: a def (or a method) of the text, by its body. The body's reading t is chosen for each entry; it is run at the parameters' values -/
theorem fn_of {CX : CXT} {P : Program} {w : World} {K : PySem.W.Frag} {mg : Str → Option Value} {base : Heap} {k : Nat} {f : Addr} {name qual : Str} {params : Arguments} {body : List Stmt} {scope : Scope} {dV kV doc pm cdv ct oc : Value} {an od : Option Addr}
    {osl : Array (Option Value)} {N ps : List Str} {sp : Sp} (lk : K.lookup f = some ⟨oc, od, .func (PySem.W.fnOf name qual params body scope dV kV doc pm an cdv ct), osl⟩) (hcd : PySem.W.codeIn K cdv qual = true) (S : FnScope N ps scope)
    (len : ∀ vs H Q E, sp vs H Q E → vs.length = ps.length)
    (hbody : ∀ (A : Around) (outer : List Env) (s : Shared) (H : Hp) (vs : List V) (Q : VK) (E : XK), Room k (A.deeper (envOfC qual scope s.heap.objs.size f cdv)) → sp vs H Q E →
      ∃ t, PSs (cxOf CX P w K mg base N qual scope f cdv A outer s H E) body t ∧ t { nx := fun _ H' => Q .non H', rt := Q } (start N vs) H) :
    FnOk P w K mg base CX (k + 1) f (PySem.W.fnOf name qual params body scope dV kV doc pm an cdv ct) ps sp := by
  refine ⟨len, fun A outer s H args us vs Q E hr e0 hb r hsp => ?_⟩
  have hl := len _ _ _ _ hsp
  have KX : K.In s.heap := e0.mod.kin.keeps fun b o e => (e0.bs b o e).1
  have lim : s.heap.NoLimit := e0.mod.nolimit.keeps fun b o e => (e0.bs b o e).1
  have hkind : ∀ y ∈ ps.zip us, scope.names.lookup y.1 = some .local ∨ (scope.names.lookup y.1 = some .cell ∧ ((cellsFrom (s.heap.objs.size + 1) scope.names []).lookup y.1).isSome = true) := fun ⟨n, v⟩ hy => by
    rcases S.par n (List.of_mem_zip hy).1 with q | q
    · exact .inl q
    · exact .inr ⟨q, PySem.W.cellsFrom_some _ _ _ (.inl q)⟩
  refine codeAny_call_function hr.depth (KX _ _ lk) rfl S.co S.gen rfl (PySem.W.codeRec_of KX hcd) (hb _ _ _ _ ?_)
  refine wpAny_newFunctionEnv_cells S.kind hkind fun env he s1 x => ?_
  subst he
  refine ⟨lim.keeps x.toInCall.keep, codeAny_func ?_⟩
  obtain ⟨t, ht, hq⟩ := hbody A outer s H vs Q E (hr.deeper _) hsp
  have I : Inv (cxOf CX P w K mg base N qual scope f cdv A outer s H E) [] (start N vs) H s1 := inv_start S hr.hd e0 hl r x
  refine wpAny_mono (ht [] s1 (start N vs) H _ I hq) (fun fl s' hs => ?_) fun e s' hs => hs
  have fin : ∀ {σ' : St} {H' : Hp} {v : V} {u : Value}, Inv (cxOf CX P w K mg base N qual scope f cdv A outer s H E) [] σ' H' s' → RelV v u → Q v H' → CE outer P w H s Q u s' :=
    fun {σ' H' v u} J rv q => ⟨v, H', J.os, J.bare, J.base, J.hok, rv, q⟩
  cases fl with
  | ret u =>
    obtain ⟨v, σ', H', J, rv, q⟩ := hs
    exact fin J rv q
  | next =>
    obtain ⟨σ', H', J, q⟩ := hs
    exact fin (v := V.non) (u := Value.none) J rfl q
  | brk =>
    obtain ⟨_, _, _, q⟩ := hs
    exact False.elim q
  | cont =>
    obtain ⟨_, _, _, q⟩ := hs
    exact False.elim q
end L2

namespace L2
open PySem PySem.Spec PyProof.Rows
section
variable {X : Cx} {x : Str} {p pos : Pos} {e : Expr} {es : List Expr} {t : TA} {id T : String} {r : List V → Hp → VK → Prop}

def tCB (r : List V → Hp → VK → Prop) (t : TA) : TE := fun σ H Q => t σ H fun vs H1 => r vs H1 Q
/-- f(e, ..), f a built-in function -/
theorem pe_callB (hc : CallR X (.builtin id) r) (hg : Gl X x) (hm : X.mg x = none) (hv : bootBuiltins x = some (.builtin id)) (ha : PA X (e :: es) t) (hn : x ≠ "__name__" := by decide) (hdb : (x == ("__debug__" : Str)) = false := by decide)
    (he : starEach (e :: es) X.env = (false, eval e X.env) :: starEach es X.env := by rfl) (hpl : (backTo pos (starEach es X.env)).any (·.1) = false := by rfl) : PE X (.Call (.Name x p) (e :: es) [] pos) (tCB r t) := by
  intro pins s σ H Q I h
  refine wpAny_Call_Name_kw (ld_blt I hg hm hv ?_ hn hdb)
  exact PyProof.Rows.callWith_builtin1 (thn (ha pos pins s σ H _ I h) fun us s1 ⟨vs, H1, I1, r1, q1⟩ => hc pins s1 σ H1 vs us Q I1 r1 q1) he hpl
/-- T(e, ..), T a built-in type -/
theorem pe_callTy (hc : CallR X (.type T) r) (hg : Gl X x) (hm : X.mg x = none) (hv : bootBuiltins x = some (.type T)) (ha : PA X (e :: es) t) (hn : x ≠ "__name__" := by decide) (hdb : (x == ("__debug__" : Str)) = false := by decide)
    (he : starEach (e :: es) X.env = (false, eval e X.env) :: starEach es X.env := by rfl) (hpl : (backTo pos (starEach es X.env)).any (·.1) = false := by rfl) : PE X (.Call (.Name x p) (e :: es) [] pos) (tCB r t) := by
  intro pins s σ H Q I h
  refine wpAny_Call_Name_kw (ld_blt I hg hm hv ?_ hn hdb)
  exact PyProof.Rows.callWith_type1 (thn (ha pos pins s σ H _ I h) fun us s1 ⟨vs, H1, I1, r1, q1⟩ => hc pins s1 σ H1 vs us Q I1 r1 q1) he hpl
end
end L2

namespace HT
open PySem PyProof.Rows

/-- t < u of tuples of ints -/
def lexLt : List Int → List Int → Bool
  | [], [] => false
  | [], _ :: _ => true
  | _ :: _, [] => false
  | x :: xs, y :: ys => if x = y then lexLt xs ys else decide (x < y)
section
open PySem.SeqAt
open PySem.AutoSeq1 (wpAny_loadPart')
open PySem.MeetsSeq PySem.MeetsSeq2 PySem.MeetsSeq3

end

section
variable {prog : Program} {w : World} {A : Around} {E : Value → Shared → Prop} {s : Shared}

/-- t + u, t not empty -/
theorem cat_tup {t b : Addr} {vs ws : List Value} {Q : Value → Shared → Prop} (ht : IsTup s.heap t vs.toArray) (hb : IsTup s.heap b ws.toArray) (hv : vs ≠ [])
    (h1 : ws = [] → Q (.ref t) s) (h2 : ws ≠ [] → Q (.ref s.heap.objs.size) { s with heap := s.heap.push { cls := .type "tuple", data := .seq (vs ++ ws).toArray } })
    (hsz : vs.length + ws.length ≤ sizeLine) : wpAny (model prog w) A (binaryOp .Add (.ref t) (.ref b)) Q E s := by
  obtain ⟨⟨cls, dd, data, sl⟩, ho, hc, n, hd⟩ := id ht
  obtain ⟨⟨cls2, dd2, data2, sl2⟩, ho2, hc2, n2, hd2⟩ := id hb
  simp only at hc hd hc2 hd2
  subst hc hd hc2 hd2
  have e : vs.toArray ++ ws.toArray = (vs ++ ws).toArray := by simp
  by_cases hw : ws = []
  · exact concat_meets ⟨_, ho, rfl⟩ ⟨_, ho2, rfl⟩ noFill_tuple_add seq_tuple_add PySem.F.slot_tuple_add PySem.F.entry_tuple_add (PySem.F.args_tuple_add_2 _ _)
      (tuple_addW1 t b vs.toArray ws.toArray n n2 dd dd2 sl sl2 (by simpa using hv) (by simp [hw])) ⟨ho, ho2, h1 hw⟩
  · refine concat_meets ⟨_, ho, rfl⟩ ⟨_, ho2, rfl⟩ noFill_tuple_add seq_tuple_add PySem.F.slot_tuple_add PySem.F.entry_tuple_add (PySem.F.args_tuple_add_2 _ _)
      (tuple_addW2 t b vs.toArray ws.toArray n n2 dd dd2 sl sl2 (by simpa using hv) (by simpa using hw) (by rw [List.size_toArray, List.size_toArray]; exact hsz)) ⟨ho, ho2, ?_⟩
    rw [e]
    exact h2 hw

/-! ### t[a:b], not the whole -/
/-- a slice's bound as a place among n (d where it is left out) -/
def sIx (n d : Nat) : Option Int → Nat
  | none => d
  | some v => if v < 0 then (v + (n : Int)).toNat else min v.toNat n
theorem sIx_none (n d : Nat) : sIx n d none = d := rfl
theorem sIx_nat (n d k : Nat) : sIx n d (some (k : Int)) = min k n := by
  show (if (k : Int) < 0 then ((k : Int) + (n : Int)).toNat else min (k : Int).toNat n) = min k n
  rw [if_neg (by omega), Int.toNat_natCast]
theorem sIx_le (n d : Nat) (hd : d ≤ n) (o : Option Int) : sIx n d o ≤ n := by
  cases o with
  | none => exact hd
  | some v =>
    show (if v < 0 then (v + (n : Int)).toNat else min v.toNat n) ≤ n
    by_cases hv : v < 0
    · rw [if_pos hv]; omega
    · rw [if_neg hv]; exact Nat.min_le_right _ _
theorem clip_eq (v : Int) (n d : Nat) : (if v < 0 then max (v + (n : Int)) 0 else min v (n : Int)) = ((sIx n d (some v) : Nat) : Int) := by
  show (if v < 0 then max (v + (n : Int)) 0 else min v (n : Int)) = (((if v < 0 then (v + (n : Int)).toNat else min v.toNat n) : Nat) : Int)
  by_cases hv : v < 0
  · simp only [if_pos hv]; omega
  · simp only [if_neg hv]; omega
theorem adjust_gen (lo hi : Option Int) (n : Nat) : Builtin.Slice.sliceAdjust lo hi 1 (n : Int) = (((sIx n 0 lo : Nat) : Int), ((sIx n n hi : Nat) : Int)) := by
  have h1 : ¬ ((1 : Int) < 0) := by omega
  unfold Builtin.Slice.sliceAdjust
  simp only [h1, if_false]
  refine Prod.ext ?_ ?_
  · cases lo with
    | none => rfl
    | some v => exact clip_eq v n 0
  · cases hi with
    | none => rfl
    | some v => exact clip_eq v n n
theorem places_gen (i j : Nat) : Builtin.Slice.slicePlaces (i : Int) (j : Int) 1 = j - i := by
  unfold Builtin.Slice.slicePlaces
  have h1 : (1 : Int) > 0 := by omega
  simp only [h1, if_true, Int.ediv_one]
  split <;> omega
theorem slicePart_ {v : Value} {o : Option Int} {Q : Option Int → Shared → Prop} (p : IsPart v o) (h : Q o s) : wpAny (model prog w) A (Builtin.Slice.slicePartIndex v) Q E s := by
  cases p with
  | none => exact slicePart_none h
  | int i t => exact slicePart_int h
theorem sliceApplied_gen {sl : Addr} {vl vu : Value} {lo hi : Option Int} {n : Nat} {Q : Int × Int × Nat → Shared → Prop} (hs : s.heap.IsSliceOf sl vl vu .none) (pl : IsPart vl lo) (pu : IsPart vu hi)
    (h : Q (((sIx n 0 lo : Nat) : Int), 1, sIx n n hi - sIx n 0 lo) s) : wpAny (model prog w) A (Builtin.Slice.sliceApplied (.ref sl) (pure (n : Int))) Q E s := by
  obtain ⟨os, hos, hcs, hds⟩ := id hs
  unfold Builtin.Slice.sliceApplied Builtin.Slice.sliceFields
  refine wpAny_bind (wpAny_bind (wpAny_field hos hds (x := vl) rfl (wpAny_bind (wpAny_field hos hds (x := vu) rfl (wpAny_bind (wpAny_field hos hds (x := .none) rfl (wpAny_pure ?_)))))))
  refine wpAny_bind (slicePart_none ?_)
  show wpAny _ _ (if ((1 : Int) == 0) = true then _ else _) _ _ s
  rw [if_neg (by decide)]
  refine wpAny_bind (slicePart_ pl (wpAny_bind (slicePart_ pu (wpAny_bind (wpAny_pure ?_)))))
  show wpAny _ _ (match Builtin.Slice.sliceAdjust lo hi 1 (n : Int) with | (lo, hi) => pure (lo, (1 : Int), Builtin.Slice.slicePlaces lo hi 1)) _ _ s
  rw [adjust_gen lo hi n]
  show wpAny _ _ (pure (((sIx n 0 lo : Nat) : Int), (1 : Int), Builtin.Slice.slicePlaces ((sIx n 0 lo : Nat) : Int) ((sIx n n hi : Nat) : Int) 1)) _ _ s
  rw [places_gen]
  exact wpAny_pure h
theorem pick_gen (xs : Array Value) (i k : Nat) : ((List.range k).filterMap fun (m : Nat) => xs[((i : Int) + (m : Int) * 1).toNat]?).toArray = ((xs.toList.drop i).take k).toArray := by
  have e : (fun (m : Nat) => xs[((i : Int) + (m : Int) * 1).toNat]?) = fun m => xs[i + m]? := by
    funext m
    have : ((i : Int) + (m : Int) * 1).toNat = i + m := by omega
    rw [this]
  rw [e]
  have := pick_run xs i k
  rw [List.filterMap_map] at this
  have e2 : ((fun x => xs[x]?) ∘ fun x => i + x) = fun m => xs[i + m]? := rfl
  rw [e2] at this
  rw [this]

theorem getItem_tuple_cut {t sl : Addr} {items : Array Value} {vl vu : Value} {lo hi : Option Int} {Q : Value → Shared → Prop} (ht : IsTup s.heap t items) (hs : s.heap.IsSliceOf sl vl vu .none) (pl : IsPart vl lo) (pu : IsPart vu hi)
    (hw : ¬ (sIx items.size 0 lo = 0 ∧ sIx items.size items.size hi = items.size))
    (h : Q (.ref s.heap.objs.size) { s with heap := s.heap.push { cls := .type "tuple", data := .seq ((items.toList.drop (sIx items.size 0 lo)).take (sIx items.size items.size hi - sIx items.size 0 lo)).toArray } })
    (hsz : items.size ≤ sizeLine) : wpAny (model prog w) A (getItem (.ref t) (.ref sl)) Q E s := by
  have htake : sizeOk (.seq ((items.toList.drop (sIx items.size 0 lo)).take (sIx items.size items.size hi - sIx items.size 0 lo)).toArray) := by
    show ((items.toList.drop (sIx items.size 0 lo)).take (sIx items.size items.size hi - sIx items.size 0 lo)).toArray.size ≤ sizeLine
    rw [List.size_toArray, List.length_take, List.length_drop, Array.length_toList]
    omega
  have hj : sIx items.size items.size hi ≤ items.size := sIx_le _ _ (Nat.le_refl _) hi
  obtain ⟨os, hos, hcs, hds⟩ := id hs
  have hTs : s.TypeIs (.ref sl) "slice" := ⟨os, hos, hcs⟩
  unfold getItem
  try with_reducible refine wpAny_holding ?_
  first | refine wpAny_bind (wpAny_pure ?_) | skip
  refine wpAny_bind (wpAny_sequenceKey ht.typeIs (by decide) ?_)
  refine wpAny_bind (wpAny_callSpecial?_slot (name := Str.ofString "__getitem__") ht.typeIs PyProof.Rows.slot_tuple_getitem
    (wpAny_call_entry PyProof.Rows.slot_tuple_getitem ht.typeIs entry_tuple_getitem ?_ (args_tuple_getitem _ _)))
  show wpAny _ _ (Builtin.Tuple.tupleItemsOf (.ref t) >>= _) _ _ s
  refine wpAny_bind (tupleItemsOf_ ht ?_)
  refine wpAny_bind (wpAny_typeOf hTs ?_)
  rw [if_pos (by decide)]
  refine wpAny_bind (sliceApplied_gen hs pl pu ?_)
  have hno : ¬ ((((sIx items.size 0 lo : Nat) : Int) == 0 && (1 : Int) == 1 && (sIx items.size items.size hi - sIx items.size 0 lo) == items.size) = true) := by
    intro q
    rw [Bool.and_eq_true, Bool.and_eq_true] at q
    have q1 : ((sIx items.size 0 lo : Nat) : Int) = 0 := eq_of_beq q.1.1
    have q2 : sIx items.size items.size hi - sIx items.size 0 lo = items.size := eq_of_beq q.2
    exact hw ⟨by omega, by omega⟩
  show wpAny _ _ (if (((sIx items.size 0 lo : Nat) : Int) == 0 && (1 : Int) == 1 && (sIx items.size items.size hi - sIx items.size 0 lo) == items.size) = true then _ else _) _ _ s
  rw [if_neg hno, pick_gen]
  first
    | exact wpAny_bind (m := Builtin.Tuple.tupleExact _) (wpAny_newObj_type (wpAny_pure ⟨_, rfl, wpAny_pure h⟩) htake)
    | exact wpAny_bind (m := Builtin.Tuple.tupleExact _) (wpAny_newObj_type (wpAny_bind (wpAny_pure (wpAny_pure ⟨_, rfl, wpAny_pure h⟩))) htake)
    | exact wpAny_bind (wpAny_bind (m := Builtin.Tuple.tupleExact _) (wpAny_newObj_type (wpAny_pure (wpAny_pure ⟨_, rfl, wpAny_pure h⟩)) htake))
    | exact wpAny_bind (wpAny_bind (m := Builtin.Tuple.tupleExact _) (wpAny_newObj_type (wpAny_pure ⟨_, rfl, wpAny_pure h⟩) htake))
end
end HT

namespace L2
open PySem PySem.Spec PyProof.Rows

/-! ### the parts of a slice -/
abbrev TO := St → Hp → (Option Int → Hp → Prop) → Prop
/-- a slice's part (left out, or an int) -/
def PO (X : Cx) (e : Option Expr) (t : TO) : Prop :=
  ∀ (pins : List (Addr × Obj)) (s : Shared) (σ : St) (H : Hp) (Q : Option Int → Hp → Prop), Inv X pins σ H s → t σ H Q →
    wpAny (model X.prog X.w) X.A (evalPart e X.env) (fun u s' => ∃ o H', Inv X pins σ H' s' ∧ IsPart u o ∧ Q o H') X.xe s
def tNoPart : TO := fun _ H Q => Q none H
def tPart (t : TE) : TO := fun σ H Q => t σ H fun x H1 => ∃ i, x = .int i ∧ Q (some i) H1

section
variable {X : Cx} {e : Expr} {te : TE} {lo hi : Option Expr} {tl th : TO} {pos p2 : Pos}

theorem po_none : PO X none tNoPart := by
  intro pins s σ H Q I h
  rw [evalPart_none]
  exact wpAny_pure ⟨none, H, I, .none, h⟩
theorem po_some (h : PE X e te) : PO X (some e) (tPart te) := by
  intro pins s σ H Q I hw
  rw [evalPart_some]
  refine thn (h pins s σ H _ I hw) fun u s1 ⟨x, H1, I1, r1, q1⟩ => ?_
  obtain ⟨i, rfl, q⟩ := q1
  obtain ⟨t, rfl⟩ := r1
  exact ⟨some i, H1, I1, .int i t, q⟩

/-- what a slice of a value is, by values: the slice object stands at sl -/
def SlR (X : Cx) (r : V → Option Int → Option Int → Hp → VK → Prop) : Prop :=
  ∀ (pins : List (Addr × Obj)) (s : Shared) (σ : St) (H : Hp) (x : V) (v vl vu : Value) (lo hi : Option Int) (sl : Addr) (Q : VK), Inv X pins σ H s → RelV x v → s.heap.IsSliceOf sl vl vu .none → IsPart vl lo → IsPart vu hi → r x lo hi H Q →
    ∃ T id, typeLookup (.type T) "__getitem__" = pure (some (.builtin id)) ∧ s.TypeIs v T ∧ wpAny (model X.prog X.w) X.A (getItem v (.ref sl)) (EP X pins σ Q) X.xe s
def tSl (r : V → Option Int → Option Int → Hp → VK → Prop) (te : TE) (tl th : TO) : TE := fun σ H Q => te σ H fun x H1 => tl σ H1 fun l H2 => th σ H2 fun u H3 => r x l u H3 Q
/-- a[lo:hi], any a -/
theorem pe_slice {r : V → Option Int → Option Int → Hp → VK → Prop} (hr : SlR X r) (he : PE X e te) (hl : PO X lo tl) (hu : PO X hi th) : PE X (.Subscript e (.Slice lo hi none p2) pos) (tSl r te tl th) := by
  intro pins s σ H Q I h
  refine Subscript_ (thn (he pins s σ H _ I h) fun v s1 ⟨x, H1, I1, r1, q1⟩ => ?_)
  refine wpAny_Slice (thn (hl pins s1 σ H1 _ I1 q1) fun vl s2 ⟨l, H2, I2, pl, q2⟩ => thn (hu pins s2 σ H2 _ I2 q2) fun vu s3 ⟨u, H3, I3, pu, q3⟩ => ?_)
  rw [evalPart_none]
  refine wpAny_pure ?_
  have I4 : Inv X pins σ H3 { s3 with heap := s3.heap.push { cls := .type "slice", data := .fields #[vl, vu, .none] } } := I3.kept (t' := s3.toks) fun b ob q => Heap.get?_push_of_some _ q
  obtain ⟨T, id, hT, ht, hg⟩ := hr pins { s3 with heap := s3.heap.push { cls := .type "slice", data := .fields #[vl, vu, .none] } } σ H3 x v vl vu l u s3.heap.objs.size Q I4 r1 (Heap.IsSliceOf.new ..) pl pu q3
  show wpAny (model X.prog X.w) X.A (subscriptTail e (.Slice lo hi none p2) v (.ref s3.heap.objs.size)) (EP X pins σ Q) X.xe { s3 with heap := s3.heap.push { cls := .type "slice", data := .fields #[vl, vu, .none] } }
  exact tail_any (ops := [.ref s3.heap.objs.size, v]) ht hT hg (by with_unfolding_all rfl)

/-- the items of xs[lo:hi] -/
def cutV (xs : List V) (lo hi : Option Int) : List V := (xs.drop (HT.sIx xs.length 0 lo)).take (HT.sIx xs.length xs.length hi - HT.sIx xs.length 0 lo)
theorem cutV_length (xs : List V) (lo hi : Option Int) : (cutV xs lo hi).length ≤ xs.length := by
  unfold cutV
  rw [List.length_take, List.length_drop]
  omega
/-- t[lo:hi], not the whole of it (the whole would be t itself) -/
def rSlT (K : PySem.W.Frag) : V → Option Int → Option Int → Hp → VK → Prop := fun x lo hi H Q => ∃ a xs, x = .ref a ∧ SqT K H a xs ∧
  ¬ (HT.sIx xs.length 0 lo = 0 ∧ HT.sIx xs.length xs.length hi = xs.length) ∧ ∀ p, H p = none → Q (.ref p) (upd H p (.tup (cutV xs lo hi)))
theorem sl_tup : SlR X (rSlT X.K) := by
  intro pins s σ H x v vl vu lo hi sl Q I rx hs pl pu h
  obtain ⟨a, xs, rfl, hx, hw, q⟩ := h
  cases rx
  obtain ⟨its, r, ht, hz⟩ := I.tuple hx
  have hlen : its.toArray.size = xs.length := by rw [List.size_toArray]; exact r.length.symm
  refine ⟨"tuple", _, PyProof.Rows.slot_tuple_getitem.lookup, ht.typeIs, ?_⟩
  refine HT.getItem_tuple_cut ht hs pl pu (by rw [hlen]; exact hw) ?_ (by rw [hlen]; exact hz)
  rw [hlen]
  refine ⟨.ref s.heap.objs.size, _, I.laid (t' := s.toks) (o := .tup (cutV xs lo hi)) (fun b ob q => Heap.get?_push_of_some _ q) (Nat.le_refl _) ?_, rfl, q _ (I.hok.fresh (Nat.le_refl _))⟩
  exact ⟨Nat.le_trans (cutV_length xs lo hi) hz, _, (r.drop (HT.sIx xs.length 0 lo)).take (HT.sIx xs.length xs.length hi - HT.sIx xs.length 0 lo), IsTup.new _ _⟩

/-! ### t < u, t + u -/
def rLtT (K : PySem.W.Frag) : R2 := fun x y H Q => ∃ a b ns ms, x = .ref a ∧ y = .ref b ∧ SqT K H a (ns.map V.int) ∧ SqT K H b (ms.map V.int) ∧ Q (.bl (HT.lexLt ns ms)) H
/-- t + u, t not empty: u empty gives t itself -/
def rCatT (K : PySem.W.Frag) : R2 := fun x y H Q => ∃ a b xs ys, x = .ref a ∧ y = .ref b ∧ SqT K H a xs ∧ SqT K H b ys ∧ xs ≠ [] ∧ xs.length + ys.length ≤ sizeLine ∧
  (ys = [] → Q (.ref a) H) ∧ (ys ≠ [] → ∀ p, H p = none → Q (.ref p) (upd H p (.tup (xs ++ ys))))
theorem Vals.nil_iff {xs : List V} {us : List Value} (r : Vals xs us) : us = [] ↔ xs = [] := by
  cases r with
  | nil => simp
  | cons _ _ => simp
theorem op_catT : OpR X (binaryOp .Add) (rCatT X.K) := by
  intro pins s σ H x y v u Q I rx ry h
  obtain ⟨a, b, xs, ys, rfl, rfl, ha, hb, hx, hz, q1, q2⟩ := h
  cases rx
  cases ry
  obtain ⟨its, r1, p1, _⟩ := I.tuple ha
  obtain ⟨its2, r2, p2, _⟩ := I.tuple hb
  refine HT.cat_tup p1 p2 (fun z => hx (r1.nil_iff.mp z)) (fun z => ⟨.ref a, H, I, rfl, q1 (r2.nil_iff.mp z)⟩) (fun z => ?_) (by rw [← r1.length, ← r2.length]; exact hz)
  refine ⟨.ref s.heap.objs.size, _, I.laid (t' := s.toks) (o := .tup (xs ++ ys)) (fun b ob q => Heap.get?_push_of_some _ q) (Nat.le_refl _) ?_, rfl, q2 (fun w => z (r2.nil_iff.mpr w)) _ (I.hok.fresh (Nat.le_refl _))⟩
  exact ⟨by rw [List.length_append]; exact hz, _, r1.append r2, IsTup.new _ _⟩
end
end L2

namespace L2
open PySem PySem.Spec PyProof.Rows

/-! ### places -/
/-- the place that an index of any sign means -/
def ixN (n : Nat) (i : Int) : Option Nat := if 0 ≤ i then (if i < n then some i.toNat else none) else if -(n : Int) ≤ i then some (i + n).toNat else none
def atI {α : Type} (xs : List α) (i : Int) : Option α := (ixN xs.length i).bind fun j => xs[j]?
theorem ixN_seq {n : Nat} {i : Int} {j : Nat} (h : ixN n i = some j) : seqIndex? i n = some j ∧ j < n ∧ -(n : Int) ≤ i ∧ i < n := by
  unfold ixN at h
  by_cases h0 : 0 ≤ i
  · rw [if_pos h0] at h
    by_cases h1 : i < n
    · rw [if_pos h1] at h
      have e : i.toNat = j := Option.some.inj h
      exact ⟨by rw [seqIndex_of h0 h1, e], by omega, by omega, h1⟩
    · rw [if_neg h1] at h; cases h
  · rw [if_neg h0] at h
    by_cases h1 : -(n : Int) ≤ i
    · rw [if_pos h1] at h
      have e : (i + n).toNat = j := Option.some.inj h
      exact ⟨by rw [seqIndex_neg (by omega) h1, e], by omega, h1, by omega⟩
    · rw [if_neg h1] at h; cases h
theorem atI_get {α : Type} {xs : List α} {i : Int} {v : α} (h : atI xs i = some v) : ∃ j, seqIndex? i xs.length = some j ∧ xs[j]? = some v ∧ j < xs.length ∧ -(xs.length : Int) ≤ i ∧ i < xs.length := by
  unfold atI at h
  cases e : ixN xs.length i with
  | none => rw [e] at h; cases h
  | some j =>
    rw [e] at h
    obtain ⟨h1, h2, h3, h4⟩ := ixN_seq e
    exact ⟨j, h1, h, h2, h3, h4⟩
theorem atI_nat {α : Type} {xs : List α} {j : Nat} {v : α} (h : xs[j]? = some v) : atI xs (j : Int) = some v := by
  have hj : j < xs.length := (List.getElem?_eq_some_iff.mp h).1
  have e : ixN xs.length (j : Int) = some j := by
    unfold ixN
    rw [if_pos (by omega), if_pos (by omega)]; simp
  unfold atI; rw [e]; exact h
/-! ### what may be subscripted -/
/-- what stands as an index of a plain subscript -/
def PlainIx (b : Expr) : Prop := ∀ o i, subscripted b false o i = operate [o, i] (getItem o i)
/-- a subscript by values -/
def IxR (X : Cx) (r : R2) : Prop :=
  ∀ (value slice : Expr) (pins : List (Addr × Obj)) (s : Shared) (σ : St) (H : Hp) (x y : V) (v u : Value) (Q : VK), Inv X pins σ H s → RelV x v → RelV y u → r x y H Q →
    subscripted slice false v u = operate [v, u] (getItem v u) → wpAny (model X.prog X.w) X.A (subscriptTail value slice v u) (EP X pins σ Q) X.xe s
/-- a call of a builtin's method by values: the receiver, the arguments -/
def MtR (X : Cx) (id : String) (r : V → List V → Hp → VK → Prop) : Prop :=
  ∀ (pins : List (Addr × Obj)) (s : Shared) (σ : St) (H : Hp) (x : V) (xs : List V) (v : Value) (us : List Value) (Q : VK), Inv X pins σ H s → RelV x v → Vals xs us → r x xs H Q →
    wpAny (model X.prog X.w) X.A (call (.builtin id) (v :: us)) (EP X pins σ Q) X.xe s
section
variable {X : Cx} {a b : Expr} {ta tb : TE} {pos : Pos}
/-- a[b] -/
theorem pe_ix {r : R2} (hr : IxR X r) (ha : PE X a ta) (hb : PE X b tb) (hs : PlainIx b) : PE X (.Subscript a b pos) (tOp r ta tb) := by
  intro pins s σ H Q I h
  exact Subscript_ (binT ha hb I h fun v u s2 x y H2 I2 rx ry q => hr a b pins s2 σ H2 x y v u Q I2 rx ry q (hs _ _))

def rIxL (K : PySem.W.Frag) : R2 := fun x y H Q => ∃ p xs i v, x = .ref p ∧ y = .int i ∧ SqL K H p xs ∧ atI xs i = some v ∧ Q v H
def rIxT (K : PySem.W.Frag) : R2 := fun x y H Q => ∃ p xs i v, x = .ref p ∧ y = .int i ∧ SqT K H p xs ∧ atI xs i = some v ∧ Q v H
def rIxS : R2 := fun x y H Q => ∃ z i c, x = .str z ∧ y = .int i ∧ z.length ≤ sizeLine ∧ atI z.cps.toList i = some c ∧ Q (.str ⟨#[c]⟩) H
theorem ix_list : IxR X (rIxL X.K) := by
  intro value slice pins s σ H x y v u Q I rx ry h hs
  obtain ⟨p, xs, i, z, rfl, rfl, hq, he, q⟩ := h
  cases rx
  obtain ⟨t, rfl⟩ := ry
  obtain ⟨its, r, pl, hz⟩ := I.list hq
  obtain ⟨j, h1, h2, h3, h4, h5⟩ := atI_get he
  obtain ⟨w, ew, rw'⟩ := r.get h2
  have hl := r.length
  have hn := line63
  have fin : EP X pins σ Q w s := ⟨z, H, I, rw', q⟩
  by_cases h0 : 0 ≤ i
  · have hj : i.toNat = j := by
      rw [seqIndex_of h0 h5] at h1
      exact Option.some.inj h1
    exact item_listR pl.isList h0 (by omega) (by rw [hj]; simpa using ew) fin hs
  · have hj : (i + (its.toArray.size : Int)).toNat = j := by
      rw [seqIndex_neg (by omega) h4] at h1
      rw [List.size_toArray, ← hl]
      exact Option.some.inj h1
    exact subscriptTail_builtinR (x := w) pl.isList.typeIs slot_list_getitem.lookup
      (wpAny_getItem_list_neg (Q := fun r s' => r = w ∧ EP X pins σ Q r s') pl.isList (by omega) (by rw [List.size_toArray] <;> omega) (by omega) (by rw [hj]; simpa using ew) ⟨rfl, fin⟩) hs
theorem ix_tup : IxR X (rIxT X.K) := by
  intro value slice pins s σ H x y v u Q I rx ry h hs
  obtain ⟨p, xs, i, z, rfl, rfl, hq, he, q⟩ := h
  cases rx
  obtain ⟨t, rfl⟩ := ry
  obtain ⟨its, r, pl, hz⟩ := I.tuple hq
  obtain ⟨j, h1, h2, h3, h4, h5⟩ := atI_get he
  obtain ⟨w, ew, rw'⟩ := r.get h2
  have hl := r.length
  have hn := line63
  have fin : EP X pins σ Q w s := ⟨z, H, I, rw', q⟩
  exact subscriptTail_builtinR (x := w) pl.typeIs slot_tuple_getitem.lookup
    (getItem_tuple (j := j) (Q := fun r s' => r = w ∧ EP X pins σ Q r s') pl (by omega) (by omega) (by rw [List.size_toArray, ← hl]; exact h1) (by simpa using ew) ⟨rfl, fin⟩) hs
theorem ix_str : IxR X rIxS := by
  intro value slice pins s σ H x y v u Q I rx ry h hs
  obtain ⟨z, i, c, rfl, rfl, hz, he, q⟩ := h
  obtain ⟨t, rfl⟩ := rx
  obtain ⟨t', rfl⟩ := ry
  obtain ⟨j, h1, h2, h3, h4, h5⟩ := atI_get he
  have hl : z.cps.toList.length = z.length := by simp [Str.length]
  rw [hl] at h1 h4 h5
  have hn := line63
  exact tail_any (typeIs_str s z t) slot_str_getitem.lookup (getItem_str (c := c) (by
    have e1 : decide (i < -(2 ^ 63 : Int)) = false := decide_eq_false (by omega)
    have e2 : decide (i ≥ 2 ^ 63) = false := decide_eq_false (by omega)
    rw [e1, e2, Bool.or_false]) (by rw [h1]; simpa using h2) ⟨.str ⟨#[c]⟩, H, I.tok _, ⟨_, rfl⟩, q⟩) hs
/-- list, tuple or str -/
def rIx (K : PySem.W.Frag) : R2 := fun x y H Q => rIxL K x y H Q ∨ rIxT K x y H Q ∨ rIxS x y H Q
/-! ### xs[i] = v, any sign -/
/-- the list's object behind a store -/
theorem mapSeq_set (its : List Value) (n j : Nat) (u : Value) : Obj.mapSeq (·.setIfInBounds j u) { cls := .type "list", data := .seq its.toArray n } = { cls := .type "list", data := .seq (its.set j u).toArray n } := by
  simp [Obj.mapSeq]
theorem Inv.lst {pins : List (Addr × Obj)} {σ : St} {H : Hp} {s : Shared} {p : Addr} {xs : List V} (I : Inv X pins σ H s) (h : H p = some (.lst xs)) :
    ∃ (its : List Value) (n : Nat), Vals xs its ∧ s.heap.get? p = some { cls := .type "list", data := .seq its.toArray n } ∧ xs.length ≤ sizeLine := by
  obtain ⟨z, its, n, r, e⟩ := I.hok p _ h
  exact ⟨its, n, r, e, z⟩
/-- the list at p is written by an update of its object -/
theorem Inv.lstUpd {pins : List (Addr × Obj)} {σ : St} {H : Hp} {s : Shared} {p : Addr} {xs ys : List V} {its its' : List Value} {n n' : Nat} {f : Obj → Obj} (I : Inv X pins σ H s) (h : H p = some (.lst xs))
    (ho : s.heap.get? p = some { cls := .type "list", data := .seq its.toArray n }) (hf : f { cls := .type "list", data := .seq its.toArray n } = { cls := .type "list", data := .seq its'.toArray n' }) (r : Vals ys its') (hz : ys.length ≤ sizeLine) (t : Nat) :
    Inv X pins σ (upd H p (.lst ys)) { s with heap := s.heap.update p f, toks := t } := by
  have e : (s.heap.update p f).get? p = some { cls := .type "list", data := .seq its'.toArray n' } := by
    rw [Heap.get?_update_self f ho (by rw [hf] <;> rfl), hf]
  refine I.write (x := p) (e := p) (by rw [h]; trivial) (.inl rfl) (fun b u hb q => (Heap.get?_update_other _ _ (Ne.symm hb)).trans q) ⟨_, e⟩ ?_
  exact ⟨hz, its', n', r, e⟩
def rSetL : V → V → V → Hp → (Hp → Prop) → Prop := fun o i v H Q => ∃ p xs k j, o = .ref p ∧ i = .int k ∧ H p = some (.lst xs) ∧ ixN xs.length k = some j ∧ Q (upd H p (.lst (xs.set j v)))
theorem set_list : PSet X rSetL := by
  intro pins s σ H o i v ov iv u Q I ro ri rv h
  obtain ⟨p, xs, k, j, rfl, rfl, hp, hj, q⟩ := h
  cases ro
  obtain ⟨t, rfl⟩ := ri
  obtain ⟨its, n, r, ho, hz⟩ := I.lst hp
  obtain ⟨h1, h2, h3, h4⟩ := ixN_seq hj
  have hl := r.length
  have hn := line63
  have I' : Inv X pins σ (upd H p (.lst (xs.set j v))) { s with heap := s.heap.update p (Obj.mapSeq (·.setIfInBounds j u)) } :=
    I.lstUpd hp ho (mapSeq_set its n j u) (r.set rv j) (by rw [List.length_set]; exact hz) s.toks
  by_cases h0 : 0 ≤ k
  · have hk : k.toNat = j := by
      rw [seqIndex_of h0 h4] at h1
      exact Option.some.inj h1
    exact PySem.W.ki_setAt ho h0 (by omega) (by rw [List.size_toArray, ← hl]; exact h4) (by rw [hk]; exact ⟨_, I', q⟩)
  · have hk : (k + (its.toArray.size : Int)).toNat = j := by
      rw [seqIndex_neg (by omega) h3] at h1
      rw [List.size_toArray, ← hl]
      exact Option.some.inj h1
    exact PySem.W.ki_setBack ho (by omega) (by rw [List.size_toArray, ← hl]; exact h3) (by omega) (by rw [hk]; exact ⟨_, I', q⟩)

/-! ### slices -/
/-- xs[lo:hi] of a list: a new list -/
def rSlL (K : PySem.W.Frag) : V → Option Int → Option Int → Hp → VK → Prop := fun x lo hi H Q => ∃ a xs, x = .ref a ∧ SqL K H a xs ∧ ∀ p, H p = none → Q (.ref p) (upd H p (.lst (cutV xs lo hi)))
/-! ### in, not in: flat items -/
def flatV : V → Bool
  | .non => true
  | .bl _ => true
  | .int _ => true
  | .str _ => true
  | _ => false
/-- == of flat values -/
def eqV : V → V → Bool
  | .non, .non => true
  | .bl a, .bl b => a == b
  | .bl a, .int b => (if a then 1 else 0) == b
  | .int a, .bl b => a == (if b then 1 else 0)
  | .int a, .int b => a == b
  | .str a, .str b => a == b
  | _, _ => false
theorem eqAt_V {A : Around} {s : Shared} {y x : V} {u v : Value} (ry : RelV y u) (rx : RelV x v) (fy : flatV y = true) (fx : flatV x = true) : SeqAt.EqAt A s u v (eqV y x) := by
  cases y with
  | non =>
    cases ry
    cases x with
    | non => cases rx; exact SeqAt.EqAt.same _
    | bl b => cases rx; exact SeqAt.EqAt.none_bool b
    | int b => obtain ⟨t, rfl⟩ := rx; exact SeqAt.EqAt.none_int b t
    | str b => obtain ⟨t, rfl⟩ := rx; exact SeqAt.EqAt.none_str b t
    | _ => exact absurd (show false = true from fx) Bool.false_ne_true
  | bl a =>
    cases ry
    cases x with
    | non => cases rx; exact SeqAt.EqAt.bool_none a
    | bl b => cases rx; exact SeqAt.EqAt.bool_bool a b
    | int b => obtain ⟨t, rfl⟩ := rx; exact SeqAt.EqAt.bool_int a b t
    | str b => obtain ⟨t, rfl⟩ := rx; exact SeqAt.EqAt.bool_str a b t
    | _ => exact absurd (show false = true from fx) Bool.false_ne_true
  | int a =>
    obtain ⟨t', rfl⟩ := ry
    cases x with
    | non => cases rx; exact SeqAt.EqAt.int_none a t'
    | bl b => cases rx; exact SeqAt.EqAt.int_bool a t' b
    | int b => obtain ⟨t, rfl⟩ := rx; exact SeqAt.EqAt.int_int a t' b t
    | str b => obtain ⟨t, rfl⟩ := rx; exact SeqAt.EqAt.int_str a t' b t
    | _ => exact absurd (show false = true from fx) Bool.false_ne_true
  | str a =>
    obtain ⟨t', rfl⟩ := ry
    cases x with
    | non => cases rx; exact SeqAt.EqAt.str_none a t'
    | bl b => cases rx; exact SeqAt.EqAt.str_bool a t' b
    | int b => obtain ⟨t, rfl⟩ := rx; exact SeqAt.EqAt.str_int a t' b t
    | str b => obtain ⟨t, rfl⟩ := rx; exact SeqAt.EqAt.str_str a t' b t
    | _ => exact absurd (show false = true from fx) Bool.false_ne_true
  | _ => exact absurd (show false = true from fy) Bool.false_ne_true
/-- the items' answers, read off the values (a value's own answer does not lean on its token) -/
def eqU (x : V) (u : Value) : Bool := match u with
  | .none => eqV .non x
  | .bool b => eqV (.bl b) x
  | .int i _ => eqV (.int i) x
  | .str z _ => eqV (.str z) x
  | _ => false
theorem eqU_of {x y : V} {u : Value} (r : RelV y u) (f : flatV y = true) : eqU x u = eqV y x := by
  cases y with
  | non => cases r; rfl
  | bl b => cases r; rfl
  | int i => obtain ⟨t, rfl⟩ := r; rfl
  | str z => obtain ⟨t, rfl⟩ := r; rfl
  | _ => exact absurd (show false = true from f) Bool.false_ne_true
theorem any_eqU {x : V} : ∀ {xs : List V} {us : List Value}, Vals xs us → xs.all flatV = true → us.any (eqU x) = xs.any fun y => eqV y x
  | _, _, .nil, _ => rfl
  | y :: xs, u :: us, .cons r t, f => by
    rw [List.all_cons, Bool.and_eq_true] at f
    rw [List.any_cons, List.any_cons, eqU_of r f.1, any_eqU t f.2]
theorem mem_eqAt {A : Around} {s : Shared} {x : V} {v : Value} (rx : RelV x v) (fx : flatV x = true) : ∀ {xs : List V} {us : List Value}, Vals xs us → xs.all flatV = true → ∀ u ∈ us, SeqAt.EqAt A s u v (eqU x u)
  | _, _, .nil, _ => fun u hu => by cases hu
  | y :: xs, u :: us, .cons r t, f => fun u' hu => by
    rw [List.all_cons, Bool.and_eq_true] at f
    rcases List.mem_cons.mp hu with rfl | hu
    · rw [eqU_of r f.1]; exact eqAt_V r rx f.1 fx
    · exact mem_eqAt rx fx t f.2 u' hu
def inV (x : V) (xs : List V) : Bool := xs.any fun y => eqV y x
/-- x in a list or tuple of flat items -/
def rIn (K : PySem.W.Frag) (neg : Bool) : R2 := fun x y H Q => ∃ p xs, y = .ref p ∧ (SqL K H p xs ∨ SqT K H p xs) ∧ flatV x = true ∧ xs.all flatV = true ∧ Q (.bl (if neg then !inV x xs else inV x xs)) H
theorem op_in_seq : OpR X (compareOp .In) (rIn X.K false) := by
  intro pins s σ H x y v u Q I rx ry h
  obtain ⟨p, xs, rfl, hq, fx, fs, q⟩ := h
  cases ry
  rcases hq with hq | hq
  · obtain ⟨its, r, pl, hz⟩ := I.list hq
    refine SeqAt.in_listAt (eqU x) pl.isList (fun w hw => mem_eqAt rx fx r fs w (by simpa using hw)) ⟨.bl _, H, I, rfl, ?_⟩
    rw [show its.toArray.any (eqU x) = its.any (eqU x) by simp, any_eqU r fs]
    exact q
  · obtain ⟨its, r, pl, hz⟩ := I.tuple hq
    refine SeqAt.in_tupleAt (eqU x) pl (fun w hw => mem_eqAt rx fx r fs w (by simpa using hw)) ⟨.bl _, H, I, rfl, ?_⟩
    rw [show its.toArray.any (eqU x) = its.any (eqU x) by simp, any_eqU r fs]
    exact q
/-! ### len, list(x), tuple(x) of any list or tuple that is read -/
theorem call_len_seq : CallR X (.builtin "len") (fun xs H Q => ∃ p ys, xs = [.ref p] ∧ (SqL X.K H p ys ∨ SqT X.K H p ys) ∧ Q (.int ys.length) H) := by
  intro pins s σ H xs us Q I r h
  obtain ⟨p, ys, rfl, hq, q⟩ := h
  obtain ⟨u, rfl, rx⟩ := vals1 r
  cases rx
  have hn := line63
  rcases hq with hq | hq
  · obtain ⟨its, r', pl, hz⟩ := I.list hq
    have hlen := r'.length
    exact Calls.call_len_list pl.isList (by simp only [List.size_toArray] <;> omega) ⟨.int ys.length, H, I.tok _, ⟨s.toks + 1, by rw [List.size_toArray, hlen]⟩, q⟩
  · obtain ⟨its, r', pl, hz⟩ := I.tuple hq
    have hlen := r'.length
    exact len_tuple pl (by simp only [List.size_toArray] <;> omega) ⟨.int ys.length, H, I.tok _, ⟨s.toks + 1, by rw [List.size_toArray, hlen]⟩, q⟩
theorem call_len_str : CallR X (.builtin "len") (fun xs H Q => ∃ z, xs = [.str z] ∧ z.length ≤ sizeLine ∧ Q (.int z.length) H) := by
  intro pins s σ H xs us Q I r h
  obtain ⟨z, rfl, hz, q⟩ := h
  obtain ⟨u, rfl, t, rfl⟩ := vals1 r
  have hn := line63
  exact len_str (by omega) ⟨.int z.length, H, I.tok _, ⟨_, rfl⟩, q⟩
theorem call_list_of : CallR X (.type "list") (fun xs H Q => ∃ p ys, xs = [.ref p] ∧ (SqL X.K H p ys ∨ SqT X.K H p ys) ∧ ∀ l, H l = none → Q (.ref l) (upd H l (.lst ys))) := by
  intro pins s σ H xs us Q I r h
  obtain ⟨p, ys, rfl, hq, q⟩ := h
  obtain ⟨u, rfl, rx⟩ := vals1 r
  cases rx
  have fin : ∀ (its : List Value), Vals ys its → ys.length ≤ sizeLine → ∀ (h' : Heap) (c' : Nat), (∀ b o', s.heap.get? b = some o' → h'.get? b = some o') →
      h'.get? s.heap.objs.size = some { cls := .type "list", dict := none, data := .seq its.toArray c', slots := #[] } → EP X pins σ Q (.ref s.heap.objs.size) { s with heap := h' } := fun its r' hz h' c' kp e =>
    ⟨.ref s.heap.objs.size, _, I.laid (t' := s.toks) kp (Nat.le_refl _) (show ObjOk X.prog X.w _ h' _ (.lst ys) from ⟨hz, its, c', r', e⟩), rfl, q _ (I.hok.fresh (Nat.le_refl _))⟩
  rcases hq with hq | hq
  · obtain ⟨its, r', pl, hz⟩ := I.list hq
    have hlen := r'.length
    obtain ⟨o, ho, hc, n, hd⟩ := pl.isList
    exact call_list_seq p (.inl rfl) ho hc hd (fun h' c' kp e => fin its r' hz h' c' kp e) (by simp only [List.size_toArray] <;> omega)
  · obtain ⟨its, r', pl, hz⟩ := I.tuple hq
    have hlen := r'.length
    obtain ⟨o, ho, hc, n, hd⟩ := pl
    exact call_list_seq p (.inr rfl) ho hc hd (fun h' c' kp e => fin its r' hz h' c' kp e) (by simp only [List.size_toArray] <;> omega)
theorem call_tuple_of : CallR X (.type "tuple") (fun xs H Q => ∃ p ys, xs = [.ref p] ∧ ((SqL X.K H p ys ∧ ∀ l, H l = none → Q (.ref l) (upd H l (.tup ys))) ∨ (SqT X.K H p ys ∧ Q (.ref p) H))) := by
  intro pins s σ H xs us Q I r h
  obtain ⟨p, ys, rfl, h⟩ := h
  obtain ⟨u, rfl, rx⟩ := vals1 r
  cases rx
  rcases h with ⟨hq, q⟩ | ⟨hq, q⟩
  · obtain ⟨its, r', pl, hz⟩ := I.list hq
    have hlen := r'.length
    refine call_tuple_list pl.isList (fun h' kp => ?_) (by simp only [List.size_toArray] <;> omega)
    have I1 : Inv X pins σ H { s with heap := h' } := I.kept (t' := s.toks) kp
    have I2 : Inv X pins σ (upd H h'.objs.size (.tup ys)) { s with heap := h'.push { cls := .type "tuple", data := .seq its.toArray } } :=
      I1.laid (t' := s.toks) (fun b o e => Heap.get?_push_of_some _ e) (Nat.le_refl _) (show ObjOk X.prog X.w _ _ _ (.tup ys) from ⟨hz, its, r', IsTup.new _ _⟩)
    exact ⟨.ref h'.objs.size, _, I2, rfl, q _ (I1.hok.fresh (Nat.le_refl _))⟩
  · obtain ⟨its, r', pl, hz⟩ := I.tuple hq
    exact call_tuple_same pl ⟨.ref p, H, I, rfl, q⟩

/-! ### the call of a builtin's method: o.m(..) -/
/-- the value is of that builtin type -/
def tyV (K : PySem.W.Frag) (T : String) (x : V) (H : Hp) : Prop := match x with
  | .str _ => T = "str"
  | .int _ => T = "int"
  | .ref p => (T = "list" ∧ ∃ xs, SqL K H p xs) ∨ (T = "tuple" ∧ ∃ o, K.lookup p = some o ∧ o.cls = .type "tuple" ∧ o.dict = none) ∨
      (T = "dict" ∧ ((∃ kvs, H p = some (.dK kvs)) ∨ ∃ kvs, H p = some (.dT kvs))) ∨ (T = "set" ∧ ∃ S n, H p = some (.set S n))
  | _ => False
theorem tyV_is {pins : List (Addr × Obj)} {σ : St} {H : Hp} {s : Shared} {T : String} {x : V} {v : Value} (I : Inv X pins σ H s) (r : RelV x v) (ty : tyV X.K T x H) :
    s.TypeIs v T ∧ ∀ a, v = .ref a → ∃ ob, s.heap.get? a = some ob ∧ ob.dict = none := by
  cases x with
  | str z =>
    obtain ⟨t, rfl⟩ := r
    cases (show T = "str" from ty)
    exact ⟨typeIs_str s z t, fun _ e => nomatch e⟩
  | int i =>
    obtain ⟨t, rfl⟩ := r
    cases (show T = "int" from ty)
    exact ⟨typeIs_int s i t, fun _ e => nomatch e⟩
  | ref p =>
    cases r
    rcases ty with ⟨rfl, xs, hq⟩ | ⟨rfl, o, hk, hc, hd⟩ | ⟨rfl, hk⟩ | ⟨rfl, S, n, hk⟩
    · obtain ⟨its, _, pl, _⟩ := I.list hq
      refine ⟨pl.isList.typeIs, fun a e => ?_⟩
      cases e
      obtain ⟨o, n, e, c, hd, _⟩ := pl
      exact ⟨o, e, hd⟩
    · refine ⟨⟨o, I.kIn p o hk, hc⟩, fun a e => ?_⟩
      cases e
      exact ⟨o, I.kIn _ o hk, hd⟩
    · have z : ∃ o, s.heap.get? p = some o ∧ o.ExactDict := by
        rcases hk with ⟨kvs, hk⟩ | ⟨kvs, hk⟩
        · obtain ⟨_, _, _, _, o, _, _, e, ex, _⟩ := I.hok p _ hk
          exact ⟨o, e, ex⟩
        · obtain ⟨_, _, _, _, o, _, _, e, ex, _⟩ := I.hok p _ hk
          exact ⟨o, e, ex⟩
      obtain ⟨o, e, ex⟩ := z
      refine ⟨⟨o, e, ex.1⟩, fun a e2 => ?_⟩
      cases e2
      exact ⟨o, e, ex.2.1⟩
    · obtain ⟨o, _, _, _, e, ex, _⟩ := I.hok p _ hk
      refine ⟨⟨o, e, ex.1⟩, fun a e2 => ?_⟩
      cases e2
      exact ⟨o, e, ex.2.1⟩
  | _ => exact False.elim ty
def tBM0 (K : PySem.W.Frag) (T : String) (r : V → List V → Hp → VK → Prop) (to : TE) : TE := fun σ H Q => to σ H fun x H1 => tyV K T x H1 ∧ r x [] H1 Q
def tBM (K : PySem.W.Frag) (T : String) (r : V → List V → Hp → VK → Prop) (to : TE) (t : TA) : TE := fun σ H Q => to σ H fun x H1 => tyV K T x H1 ∧ t σ H1 fun xs H2 => r x xs H2 Q
variable {o e : Expr} {es : List Expr} {to : TE} {t : TA} {name : Str} {apos cpos : Pos} {T id : String} {r : V → List V → Hp → VK → Prop}
theorem pe_bm (pa : PlainAttrs T) (slot : Slot T name id) (hty : typeOf (.builtin id) = pure (.type "method_descriptor")) (hm : MtR X id r) (ho : PE X o to) (ha : PA X (e :: es) t)
    (hbase : attributeBase o name X.env (eval o X.env) = eval o X.env := by rfl)
    (hfew : ((backTo cpos (starEach (e :: es) X.env)).all (fun x => !x.1) && (backToKw cpos (keywordEach [] X.env)).all (fun x => x.1.isSome)
      && decide ((e :: es).length + ([] : List Keyword).length + (if ([] : List Keyword).isEmpty then 0 else 1) < 30)) = true := by rfl)
    (hline : (apos.endLine == cpos.line) = true := by rfl) (hs : starEach (e :: es) X.env = (false, eval e X.env) :: starEach es X.env := by rfl) (hplain : (backTo cpos (starEach es X.env)).any (·.1) = false := by rfl) :
    PE X (.Call (.Attribute o name apos) (e :: es) [] cpos) (tBM X.K T r to t) := by
  intro pins s σ H Q I h
  refine wpAny_Call_method_late hbase hfew hline rfl (thn (ho pins s σ H _ I h) fun v s1 ⟨x, H1, I1, r1, ty, q1⟩ => ?_)
  obtain ⟨h1, h2⟩ := tyV_is I1 r1 ty
  refine ⟨T, id, pa, slot, hty, h1, h2, ?_⟩
  have hA := ha cpos pins s1 σ H1 _ I1 q1
  rw [hs] at hA ⊢
  refine Calls.callWith_builtin (by show (false || (backTo cpos (starEach es X.env)).any (·.1)) = false; rw [hplain] <;> rfl) (Calls.evalArgs_plain ?_)
  exact thn hA fun us s2 ⟨vs, H2, I2, r2, q2⟩ => hm pins s2 σ H2 x vs v us Q I2 r1 r2 q2
/- xs.append(e), list.index on a module's tuple .. are MtR facts of 06m -/
end
end L2

namespace L2
open PySem PySem.Spec PyProof.Rows

def MtM (X : Cx) (id : String) (r : V → List V → Hp → VK → Prop) : Prop :=
  ∀ (pins : List (Addr × Obj)) (s : Shared) (σ : St) (H : Hp) (x : V) (xs : List V) (v : Value) (us : List Value) (Q : VK), Inv X pins σ H s → RelV x v → Vals xs us → r x xs H Q →
    wpAny (model X.prog X.w) X.A (call (.builtin id) (v :: us)) (EP X pins σ Q) X.xe s

/-! ### lists of values -/
theorem Vals.one : ∀ {x : V} {us : List Value}, Vals [x] us → ∃ u, us = [u] ∧ RelV x u
  | _, _, .cons r .nil => ⟨_, rfl, r⟩
theorem Vals.two : ∀ {x y : V} {us : List Value}, Vals [x, y] us → ∃ u v, us = [u, v] ∧ RelV x u ∧ RelV y v
  | _, _, _, .cons r (.cons q .nil) => ⟨_, _, rfl, r, q⟩
theorem Vals.rep {xs : List V} {us : List Value} (h : Vals xs us) : ∀ k : Nat, Vals (List.replicate k xs).flatten (List.replicate k us).flatten
  | 0 => .nil
  | k + 1 => by
    rw [List.replicate_succ, List.replicate_succ, List.flatten_cons, List.flatten_cons]
    exact Vals.append h (Vals.rep h k)
theorem foldl_rep (its : List Value) : ∀ (k : Nat) (acc : List Value),
    List.foldl (fun x1 x2 => x1 ++ x2) acc.toArray (List.replicate k its.toArray) = (acc ++ (List.replicate k its).flatten).toArray
  | 0, acc => by simp
  | k + 1, acc => by
    have e : acc.toArray ++ its.toArray = (acc ++ its).toArray := by simp
    have e2 : (acc ++ its) ++ (List.replicate k its).flatten = acc ++ (List.replicate (k + 1) its).flatten := by
      rw [List.replicate_succ, List.flatten_cons, List.append_assoc]
    rw [← e2, ← foldl_rep its k (acc ++ its), ← e, List.replicate_succ, List.foldl_cons]

section
variable {X : Cx} {pins : List (Addr × Obj)} {σ : St} {H : Hp} {s : Shared} {l b : Addr} {xs ys zs : List V}

/-! ### the two steps: a tracked list is rewritten, a new list is laid -/
theorem Inv.lset {its its' : List Value} {n : Nat} {f : Array Value → Array Value} {t' : Nat} (I : Inv X pins σ H s) (hH : H l = some (.lst xs))
    (e : s.heap.get? l = some { cls := .type "list", data := .seq its.toArray n }) (hf : f its.toArray = its'.toArray) (hv : Vals ys its') (hz : ys.length ≤ sizeLine) :
    Inv X pins σ (upd H l (.lst ys)) { s with heap := s.heap.update l (Obj.mapSeq f), toks := t' } := by
  have q := PySem.IsL.update e f
  rw [hf] at q
  refine I.write (x := l) (e := l) (by rw [hH]; exact trivial) (.inl rfl) (fun b' u hb hu => (Heap.get?_update_other s.heap (Obj.mapSeq f) (Ne.symm hb)).trans hu) ⟨_, q⟩ ?_
  exact ⟨hz, its', _, hv, q⟩
theorem Inv.lnew {its : List Value} {t' : Nat} (I : Inv X pins σ H s) (hv : Vals ys its) (hz : ys.length ≤ sizeLine) :
    Inv X pins σ (upd H s.heap.objs.size (.lst ys)) { s with heap := s.heap.push { cls := .type "list", data := .seq its.toArray }, toks := t' } :=
  I.laid (fun _ _ q => Heap.get?_push_of_some _ q) (Nat.le_refl _) ⟨hz, its, 0, hv, Heap.get?_push_size _ rfl⟩
theorem Inv.fresh (I : Inv X pins σ H s) : H s.heap.objs.size = none := I.hok.fresh (Nat.le_refl _)
theorem Inv.lstM (I : Inv X pins σ H s) (hH : H l = some (.lst xs)) : xs.length ≤ sizeLine ∧ ∃ (its : List Value) (n : Nat), Vals xs its ∧ xs.length = its.length ∧ s.heap.get? l = some { cls := .type "list", data := .seq its.toArray n } := by
  obtain ⟨z, its, n, r, e⟩ := I.hok l _ hH
  exact ⟨z, its, n, r, r.length, e⟩

theorem notLongL {n : Nat} (h : n ≤ sizeLine) : Builtin.List.listTooLong n = false := by
  unfold Builtin.List.listTooLong
  exact decide_eq_false (by omega)
end

section
variable {X : Cx}

/-! ### methods -/
def rAppend : V → List V → Hp → VK → Prop := fun x vs H Q => ∃ l xs y, x = .ref l ∧ vs = [y] ∧ H l = some (.lst xs) ∧ xs.length < sizeLine ∧ Q .non (upd H l (.lst (xs ++ [y])))
theorem mt_append : MtM X "list.append" rAppend := by
  intro pins s σ H x vs v us Q I rx rv h
  obtain ⟨l, xs, y, rfl, rfl, hH, hz, q⟩ := h
  cases rx
  obtain ⟨u, rfl, ru⟩ := rv.one
  obtain ⟨z, its, n, r, hl, e⟩ := I.lstM hH
  refine call_meets F.slot_list_append ⟨_, e, rfl⟩ F.entry_list_append (F.args_list_append_2 _ _) (PySem.list_append l its.toArray n u (by rw [List.size_toArray]; omega)) ⟨e, ?_⟩
  refine ⟨.non, _, I.lset (its' := its ++ [u]) hH e (by simp) (r.append (.cons ru .nil)) ?_, rfl, q⟩
  rw [List.length_append, List.length_singleton]
  omega

def rExtend : V → List V → Hp → VK → Prop := fun x vs H Q => ∃ l b xs zs, x = .ref l ∧ vs = [.ref b] ∧ H l = some (.lst xs) ∧ H b = some (.lst zs) ∧ xs.length + zs.length ≤ sizeLine ∧ Q .non (upd H l (.lst (xs ++ zs)))
def rPop : V → List V → Hp → VK → Prop := fun x vs H Q => ∃ l xs y, x = .ref l ∧ vs = [] ∧ H l = some (.lst xs) ∧ xs[xs.length - 1]? = some y ∧ Q y (upd H l (.lst xs.dropLast))
def rPopAt : V → List V → Hp → VK → Prop := fun x vs H Q => ∃ l xs i k y, x = .ref l ∧ vs = [.int i] ∧ H l = some (.lst xs) ∧ -(2 ^ 63) ≤ i ∧ i < 2 ^ 63 ∧ seqIndex? i xs.length = some k ∧ xs[k]? = some y ∧ Q y (upd H l (.lst (xs.eraseIdx k)))
def rReverse : V → List V → Hp → VK → Prop := fun x vs H Q => ∃ l xs, x = .ref l ∧ vs = [] ∧ H l = some (.lst xs) ∧ Q .non (upd H l (.lst xs.reverse))
def rClear : V → List V → Hp → VK → Prop := fun x vs H Q => ∃ l xs, x = .ref l ∧ vs = [] ∧ H l = some (.lst xs) ∧ Q .non (upd H l (.lst []))
/-! ### list + list, list += list, list * int -/
def rCat : R2 := fun x y H Q => ∃ l b xs zs, x = .ref l ∧ y = .ref b ∧ H l = some (.lst xs) ∧ H b = some (.lst zs) ∧ xs.length + zs.length ≤ sizeLine ∧ ∀ p, H p = none → Q (.ref p) (upd H p (.lst (xs ++ zs)))
theorem op_cat : OpR X (binaryOp .Add) rCat := by
  intro pins s σ H x y v u Q I rx ry h
  obtain ⟨l, b, xs, zs, rfl, rfl, hH, hB, hz, q⟩ := h
  cases rx
  cases ry
  obtain ⟨z, its, n, r, hl, e⟩ := I.lstM hH
  obtain ⟨z2, its2, n2, r2, hl2, e2⟩ := I.lstM hB
  refine PySem.P.add_list e e2 ?_ (by rw [List.size_toArray, List.size_toArray]; omega)
  have ea : its.toArray ++ its2.toArray = (its ++ its2).toArray := by simp
  rw [ea]
  exact ⟨.ref _, _, I.lnew (t' := s.toks) (r.append r2) (by rw [List.length_append]; omega), rfl, q _ I.fresh⟩
/-- a list times an int (a negative one is nothing) -/
def rRep : R2 := fun x y H Q => ∃ l k xs, x = .ref l ∧ y = .int k ∧ H l = some (.lst xs) ∧ -(2 ^ 63) ≤ k ∧ k < 2 ^ 63 ∧ xs.length * k.toNat ≤ sizeLine ∧
  ∀ p, H p = none → Q (.ref p) (upd H p (.lst (List.replicate k.toNat xs).flatten))
theorem len_rep {α : Type} (xs : List α) (k : Nat) : (List.replicate k xs).flatten.length = k * xs.length := by
  induction k with
  | zero => simp
  | succ k ih => rw [List.replicate_succ, List.flatten_cons, List.length_append, ih, Nat.succ_mul, Nat.add_comm]
theorem op_rep : OpR X (binaryOp .Mult) rRep := by
  intro pins s σ H x y v u Q I rx ry h
  obtain ⟨l, k, xs, rfl, rfl, hH, h1, h2, hz, q⟩ := h
  cases rx
  obtain ⟨t, rfl⟩ := ry
  obtain ⟨z, its, n, r, hl, e⟩ := I.lstM hH
  have hlen : its.toArray.size * k.toNat ≤ sizeLine := by rw [List.size_toArray, ← hl]; exact hz
  have hcap : ¬ its.toArray.size * k.toNat > (2 ^ 63 - 1) / 8 := by
    have : (sizeLine : Nat) ≤ (2 ^ 63 - 1) / 8 := by decide
    omega
  have hfit : ¬ (!Builtin.List.listFitsIndex k) = true := by
    rw [fitsIndex_both h1 h2]
    exact Bool.false_ne_true
  have hlong : ¬ Builtin.List.listTooLong (its.toArray.size * k.toNat) = true := by
    rw [notLongL hlen]
    exact Bool.false_ne_true
  have hnew : List.foldl (fun x1 x2 => x1 ++ x2) #[] (List.replicate (if its.toArray.isEmpty = true then 0 else k.toNat) its.toArray) = (List.replicate k.toNat its).flatten.toArray := by
    have f0 : ∀ m : Nat, List.foldl (fun x1 x2 => x1 ++ x2) #[] (List.replicate m its.toArray) = (List.replicate m its).flatten.toArray := fun m => by
      have := foldl_rep its m []
      rw [List.nil_append] at this
      exact this
    rw [f0]
    cases its with
    | nil => simp
    | cons a r' => rw [if_neg (by simp)]
  refine wpAny_binaryOp_repeat_ref (T := "list") (U := "int") (by decide) ⟨_, e, rfl⟩ (fun s' => typeIs_int s' k t) noFill_list_mul F.fills_int_mul F.slot_int_rmul repeat_list F.slot_int_index.lookup
    (call_meets F.slot_int_rmul (typeIs_int s k t) F.entry_int_rmul (F.args_int_rmul_2 _ _) (int___rmul___int_list k t l its.toArray n)
      ⟨e, rfl, ⟨_, e, rfl⟩, call_meets F.slot_list_mul ⟨_, e, rfl⟩ F.entry_list_mul (F.args_list_mul_2 _ _) (AutoListH.list___mul___list_int_3 l its.toArray n k t hfit hcap hlong) ⟨e, ?_⟩⟩)
  rw [hnew]
  exact ⟨.ref _, _, I.lnew (t' := s.toks) (r.rep k.toNat) (by rw [len_rep, Nat.mul_comm]; exact hz), rfl, q _ I.fresh⟩

/-! ### del xs[i] -/
end

/-! ### xs[a:b] = ys -/
section
variable {prog : Program} {w : World} {A : Around} {E : Value → Shared → Prop} {s : Shared}
set_option maxRecDepth 100000 in
end

section
variable {X : Cx}
end
end L2

namespace Att
open PySem PySem.W PySem.Calls PyProof.Rows

/-! ### the script -/
theorem ints_of_wellAll {P : Params} {h : Heap} : ∀ (ns : List Int) (vs : List Value), WellAll P h vs (ns.map WData.int) → IntsAre vs ns := by
  intro ns
  induction ns with
  | nil =>
    intro vs w
    rw [List.map_nil] at w
    cases w
    exact .nil
  | cons n ns ih =>
    intro vs w
    rw [List.map_cons] at w
    cases w with
    | cons a b =>
      cases a
      exact .cons _ _ (ih _ b)

theorem script_of {l : OpenLaw} {n : Nat} (hn : l.most = some n) {P : Params} {h : Heap} {args : List WData} {vals : List Value}
    (hpre : l.row.toRowW.claim.pre args = true) (hwl : WellAll P h vals args) :
    ∃ a vs ns, vals = [Value.ref a] ∧ args = [WData.list (ns.map WData.int)] ∧ h.get? a = some { cls := .type "list", data := .seq vs.toArray } ∧ IntsAre vs ns ∧ ns.length ≤ n := by
  have hsh : WShape.hasAll [] args [.list .int] = true := (pre_splitW hpre).1
  have hc : l.pre.holds [] { args := args } = true := (pre_splitW hpre).2
  obtain ⟨d, r, rfl, h1, h2⟩ := hasAllW_cons hsh
  obtain rfl := hasAllW_nil h2
  obtain ⟨xs, rfl, h3⟩ := hasW_list h1
  obtain ⟨ns, rfl⟩ := items_int h3
  have hlen : ns.length ≤ n := by
    unfold OpenLaw.pre at hc
    have h4 : (WTm.not (.lt (.lit (.int (n : Int))) (.len (.arg 0)))).holds [] { args := [.list (ns.map .int)] } = true := by
      have h4 := (holds_andW hc).1
      rw [hn] at h4
      exact h4
    have h5 := condW_of h4 (w_not (w_lt w_lit (w_len_list (w_arg rfl))))
    rw [List.length_map] at h5
    refine Nat.le_of_not_lt fun q => ?_
    have q' : (n : Int) < ((ns.length : Nat) : Int) := by omega
    first
      | (rw [decide_eq_true q'] at h5; exact absurd h5 (by decide))
      | (simp at h5; omega)
  cases hwl with
  | cons w1 w2 =>
    cases w2
    cases w1 with
    | list ho hall => exact ⟨_, _, ns, rfl, rfl, ho, ints_of_wellAll ns _ hall, hlen⟩

theorem post_true (l : OpenLaw) (args : List WData) : l.row.toRowW.claim.post args (.bool true) args = true :=
  postW_of (r := l.row.toRowW) (X := (true == true))
    (show WShape.has [] (.bool true) .bool = true by first | rfl | decide | simp [WShape.has, WShape.arms, WShape.armsAll])
    (show (WTm.eq .res (.lit (.bool true))).value [] { args := args, res := some (.bool true), after := args } = some (.bool (true == true)) from w_eq_bool (w_res rfl) w_lit) rfl

/-! ### the attachment: holds_open's last premise (the goal 'hc' behind k_head) from a wpAny of the law's body -/
/-- the same from a codeAny of the CALL (for a layer whose function contracts speak of calls) -/
theorem attach_call {l : OpenLaw} {n : Nat} {q : Program} {loose : List Str} {XP : (Str → Option Value) → Heap → Prop} {YP : World → Heap → Prop} {d : DefRec}
    (hn : l.most = some n) (hdf : d.params.defaults = [])
    (call : ∀ (w : World) (s₀ s₁ : Shared) (mg mb : Str → Option Value) (fa : Addr) (o : Obj) (pm cd doc : Value) (a : Addr) (vs : List Value) (ns : List Int),
      Ground q loose [] XP w s₀ mg mb s₁.heap → YP w s₁.heap →
      s₁.heap.get? fa = some o → o.data = .func (docDef d.name d.params d.body d.scope pm cd doc) → s₁.heap.CodeRec cd d.name → mg d.name = some (.ref fa) →
      s₁.heap.get? a = some { cls := .type "list", data := .seq vs.toArray } → IntsAre vs ns → ns.length ≤ n → s₁.gens = #[] →
      codeAny (model l.prog w) callerA (.call (.ref fa) ⟨[.ref a], []⟩) (fun r s' => r = .ok (.ret (.bool true)) ∧ OldK s₁.heap s'.heap ∧ s'.os = s₁.os ∧ AllBare s'.gens) s₁) :
    WalkO q loose XP YP l.row.toRowW d [] (fun f vs => PySem.call f vs) := by
  intro w s₀ s₁ mg mb G Y fa o pm cd doc dV kV ho hd hcd hD hmg hg args vals as hpre hlay hrd hwl hlo
  obtain rfl : dV = .none := Dflts.none hD hdf
  obtain rfl : kV = .none := Dflts.noKw hD
  obtain ⟨a, vs, ns, rfl, rfl, hobj, hints, hlen⟩ := script_of hn hpre hwl
  refine enter_call (codeAny_mono (call w s₀ s₁ mg mb fa o pm cd doc a vs ns G Y ho (fd_plain hd) hcd hmg hobj hints hlen hg) fun r s' hq => ?_)
  obtain ⟨rfl, h2, h3, h4⟩ := hq
  exact ⟨.inl ⟨.bool true, .bool true, [], rfl, fun _ => rfl, .bool true, post_true l _, fun _ => ⟨List.Pairwise.nil, fun _ hm => (nomatch hm)⟩⟩, h2, h3, h4⟩

/-! ### rules over ANY heap (no ledger) from facts about the written part K: the library's own take a ledger (News) for what they write -/
section
variable {prog : Program} {w : World} {A : Around} {E : Value → Shared → Prop} {s : Shared} {K : Frag}

/-! the whole heap as the ledger: makes every rule that writes through a ledger a rule over any heap -/
def noObjs (h : Heap) : Heap := { h with objs := #[] }
def ledger (h : Heap) (L d : Addr) : List (Addr × Obj) := (List.range h.objs.size).filterMap fun a => if a = L ∨ a = d then none else (h.get? a).map fun o => (a, o)
end
end Att

namespace L2
open PySem PySem.Spec PyProof.Rows

theorem vals_ints : ∀ {vs : List Value} {ns : List Int}, IntsAre vs ns → Vals (ns.map V.int) vs
  | _, _, .nil => .nil
  | _, _, .cons n t h => .cons ⟨t, rfl⟩ (vals_ints h)

/-- nothing is tracked but the script, known to the object (or it is an object of the module) -/
def Only (H : Hp) : Prop := ∀ b, H b = none ∨ ∃ o xs, H b = some (.frz o (.lst xs))

/-- THE HEAD: the law's promise, at the heap behind the top. F, the promise of the law's def, may use that base is part of the heap (so K.In base, base.Ns mainGlobals mg stand in Mod) -/
theorem law_call {P : Program} {w : World} {K : PySem.W.Frag} {mg mb : Str → Option Value} {CX : CXT} {k : Nat} {fa a : Addr} {fd : FuncData} {x : Str} {sp : Sp} {s₁ : Shared} {vs : List Value} {ns : List Int}
    (KX : K.In s₁.heap) (hns : s₁.heap.Ns mainGlobals mg) (hb : s₁.heap.Ns builtinsNs mb) (hbb : ∀ x : Str, x ≠ "__name__" → mb x = bootBuiltins x) (hlim : s₁.heap.NoLimit) (hg : s₁.gens = #[])
    (ha : s₁.heap.get? a = some { cls := .type "list", data := .seq vs.toArray }) (hi : IntsAre vs ns) (hl : ns.length ≤ sizeLine) (hr : Room k callerA)
    (F : ∀ base : Heap, K.In base → base.Ns mainGlobals mg → FnOk P w K mg base CX k fa fd [x] sp) (hbind : ∀ (s : Shared) (u : Value), BindsTo s fd ⟨[u], []⟩ [(x, u)])
    (hsp : ∀ H : Hp, Only H → SqL K H a (ns.map V.int) → sp [.ref a] H (fun v _ => v = .bl true) fun _ _ _ => False)
    (hCX : ∀ H e s', CX [] H s₁ (fun _ _ _ => False) e s' → False) :
    codeAny (model P w) callerA (.call (.ref fa) ⟨[.ref a], []⟩) (fun r s' => r = .ok (.ret (.bool true)) ∧ OldK s₁.heap s'.heap ∧ s'.os = s₁.os ∧ AllBare s'.gens) s₁ := by
  have rv := vals_ints hi
  have lenV := hi.length
  -- from an abstract heap in which nothing but the script may be tracked
  have core : ∀ H : Hp, Only H → SqL K H a (ns.map V.int) → HOk P w H s₁.heap → (∀ b, H b ≠ none → b = a) → (H a ≠ none → K.lookup a = none) →
      codeAny (model P w) callerA (.call (.ref fa) ⟨[.ref a], []⟩) (fun r s' => r = .ok (.ret (.bool true)) ∧ OldK s₁.heap s'.heap ∧ s'.os = s₁.os ∧ AllBare s'.gens) s₁ := by
    intro H hO hS hok hA hK
    have base_of : ∀ {b : Addr} {o : Obj}, s₁.heap.get? b = some o → H b = none → (hidT s₁.heap H).get? b = some o := fun e n => hidT_get e n
    have noA : ∀ {b : Addr} {o : Obj} {es : Array DictEntry} {ep : Nat}, s₁.heap.get? b = some o → o.data = .dict es ep → H b = none := fun {b o es ep} e d => by
      cases q : H b with
      | none => rfl
      | some u =>
        have e' : b = a := hA b (by rw [q]; simp)
        subst e'
        rw [ha] at e; cases e
        have d' : Data.seq vs.toArray _ = Data.dict es ep := d
        cases d'
    have nsK : ∀ {b : Addr} {m : Str → Option Value}, s₁.heap.Ns b m → (hidT s₁.heap H).Ns b m := fun {b m} ⟨o, es, ep, e, d, r⟩ => ⟨o, es, ep, base_of e (noA e d), d, r⟩
    have hKb : K.In (hidT s₁.heap H) := fun b o e => base_of (KX b o e) (by
      cases q : H b with
      | none => rfl
      | some u =>
        have e' : b = a := hA b (by rw [q]; simp)
        subst e'
        rw [hK (by rw [q]; simp)] at e; cases e)
    have hM : Mod K mg (hidT s₁.heap H) := ⟨hKb, nsK hns, ⟨mb, nsK hb, hbb⟩, let ⟨mc, h1, h2⟩ := hlim; ⟨mc, nsK h1, h2⟩⟩
    have e0 : Env0 P w K mg (hidT s₁.heap H) callerA [] s₁ H := ⟨rfl, hM, fun b o e => of_hidT e, Nat.le_of_eq (hidT_size _ _), trivial, fun b hb => absurd (show b ∈ ([] : List Addr) from hb) (by simp), hok, .of_eq hg⟩
    refine codeAny_mono ((F _ hKb (nsK hns)).run callerA [] s₁ H ⟨[.ref a], []⟩ [.ref a] [.ref a] _ _ hr e0 (hbind s₁ (.ref a)) (.cons rfl .nil) (hsp H hO hS)) fun r s' h => ?_
    cases r with
    | error e => exact (hCX H e s' h).elim
    | ok fl =>
      cases fl with
      | next => exact False.elim h
      | brk => exact False.elim h
      | cont => exact False.elim h
      | ret u =>
        obtain ⟨v, H', os, bare, un, hok', r', q⟩ := h
        have q' : v = .bl true := q
        subst q'
        obtain rfl : u = Value.bool true := r'
        refine ⟨rfl, OldK.of_keep fun b o e => ?_, os, bare⟩
        cases q : H b with
        | none => exact un.keep b o e q (by intro z; exact absurd (show b ∈ ([] : List Addr) from z) (by simp)) (by simp)
        | some u =>
          rcases hO b with z | ⟨ob, xs, z⟩
          · rw [q] at z; cases z
          · have z2 := un.frzs b ob _ z
            obtain ⟨e1, _⟩ := hok b _ z
            obtain ⟨e2, _⟩ := hok' b _ z2
            rw [e] at e1; cases e1
            exact e2
  cases hk : K.lookup a with
  | some o =>
    -- the script is one of the module's own objects
    have e := KX a o hk
    rw [ha] at e
    cases e
    refine core (fun _ => none) (fun _ => .inl rfl) (.inr ⟨_, vs.toArray, _, hk, rfl, rfl, rfl, by rw [List.size_toArray, lenV]; exact hl, by simpa using rv⟩) (fun b u z => by have z' : (none : Option HO) = some u := z; cases z') (fun b z => absurd rfl z) fun z => absurd rfl z
  | none =>
    refine core (fun b => if b = a then some (.frz { cls := .type "list", data := .seq vs.toArray } (.lst (ns.map V.int))) else none) (fun b => ?_) (.inl (.inr ⟨{ cls := .type "list", data := .seq vs.toArray }, if_pos rfl⟩)) (fun b u z => ?_) (fun b z => ?_) fun _ => hk
    · by_cases hb : b = a
      · exact .inr ⟨_, _, if_pos hb⟩
      · exact .inl (if_neg hb)
    · by_cases hb : b = a
      · have z' := (if_pos hb).symm.trans z
        cases z'
        subst hb
        exact ⟨ha, by rw [List.length_map]; exact hl, vs, _, rv, ha⟩
      · have z' := (if_neg hb).symm.trans z
        cases z'
    · by_cases hb : b = a
      · exact hb
      · exact absurd (if_neg hb) z
end L2

namespace L2
open PySem PySem.Spec PyProof.Rows

abbrev KOf {K : PySem.W.Frag} {h : Heap} (_ : K.In h) : PySem.W.Frag := K

/-- the goal that k_head leaves (case hc), from the law's promise. F gives the function object fd (K's own) once, then the promise over every base -/
theorem walk_of {l : PySem.W.OpenLaw} {n k : Nat} {q : Program} {loose : List Str} {XP : (Str → Option Value) → Heap → Prop} {YP : World → Heap → Prop} {d : DefRec} {K : Params → PySem.W.Frag} {CX : World → CXT} {sp : World → Sp} {x : Str}
    (hn : l.most = some n) (hn2 : n ≤ sizeLine) (hdf : d.params.defaults = []) (hr : Room k callerA)
    (hY : ∀ (w : World) (h : Heap), YP w h → (K w.params).In h)
    (F : ∀ (w : World) (mg : Str → Option Value) (fa : Addr) (h : Heap), (K w.params).In h → h.Ns mainGlobals mg → mg d.name = some (.ref fa) →
      ∃ fd : FuncData, (∀ (s : Shared) (u : Value), BindsTo s fd ⟨[u], []⟩ [(x, u)]) ∧
        ∀ base : Heap, (K w.params).In base → base.Ns mainGlobals mg → FnOk l.prog w (K w.params) mg base (CX w) k fa fd [x] (sp w))
    (hsp : ∀ (w : World) (H : Hp) (a : Addr) (ns : List Int), ns.length ≤ n → Only H → SqL (K w.params) H a (ns.map V.int) → sp w [.ref a] H (fun v _ => v = .bl true) fun _ _ _ => False)
    (hCX : ∀ (w : World) (H : Hp) (s : Shared) (e : Value) (s' : Shared), CX w [] H s (fun _ _ _ => False) e s' → False) :
    PySem.W.WalkO q loose XP YP l.row.toRowW d [] (fun f vs => PySem.call f vs) := by
  refine Att.attach_call hn hdf fun w s₀ s₁ mg mb fa o pm cd doc a vs ns G Y ho hd hcd hmg hobj hints hlen hg => ?_
  have KX := hY w _ Y
  obtain ⟨fd, hb, hF⟩ := F w mg fa _ KX G.T.g hmg
  exact law_call KX G.T.g G.T.b G.T.builtins G.T.nolimit hg hobj hints (Nat.le_trans hlen hn2) hr hF hb (fun H hO hS => hsp w H a ns hlen hO hS) fun H e s' => hCX w H s₁ e s'
end L2

/- THE LAST THEOREM (shape; LID, My.* are yours):
   My.Adr: a structure of the addresses that your layer names (classes, functions); My.Txt K t: a structure (Prop) of the equations over K;
   My.txt_mk : {K} {implicit addresses ..} (e1 : nsIn K mainGlobals "law" = some (some (.ref f))) (e2 : K.lookup f = some ⟨oc, od, .func (fnOf "law" "law" params body scope dV kV doc pm an cdv ct), sl⟩) (e3 : codeIn K cdv "law" = true) .. : ∃ t, My.Txt K t

set_option maxRecDepth 100000 in
set_option maxHeartbeats 0 in
theorem PySem.Challenge.cw_LID_holds : PySem.Challenge.rw_LID.Holds := by
  w_on; o_law; k_head; (case hw => w_witness2)
  k_fill
  refine L2.walk_of (l := PySem.Challenge.rw_LID) (n := 63) (k := 40) (x := "script") (CX := fun w => ..) (sp := fun _ => My.sp_law) rfl (by decide) rfl ⟨rfl, by decide, by decide⟩ (fun w h Y => PySem.W.kIn_of Y) ?F ?S ?C
  case F =>
    intro w mg fa h KX G hmg
    have T : ∃ t, My.Txt (L2.KOf KX) t := by
      dsimp only [L2.KOf]                          -- K must stand as «<heap const> w.params» for k_is
      refine' My.txt_mk ?e1 ?e2 ?e3 ..
      (case e1 => PySem.W.k_is)                    -- in the order: a name -> its address -> its object -> its parts
      (case e2 => PySem.W.k_is)
      ..
    obtain ⟨t, T⟩ := T
    have e0 := hmg.symm.trans (PySem.W.mg_of KX G T.law)
    cases e0                                       -- fa is the law's own address
    exact ⟨_, fun s u => .of_eq rfl, fun base kb nb => My.law_fn T kb nb⟩     -- if «.of_eq rfl» comes too early: refine' ⟨_, ?b, fun base kb nb => My.law_fn T kb nb⟩; exact fun s u => .of_eq rfl
  case S => exact fun w H a ns hl hO hS => ..
  case C => exact ..
(the tactic k_is has no namespace: write k_is) -/

/-! SHORT WORDS over the layer: a def of the text, its body, what a loop and a test want. -/
namespace L2
open PySem PySem.Spec PyProof.Rows

/-! ### the text by places -/
/-- the j-th statement of a class's body -/
def inClass (s : Stmt) (j : Nat) : Stmt := match s with
  | .ClassDef _ _ _ body _ _ _ _ _ _ _ => body.getD j (.Pass ⟨0, 0, 0, 0⟩)
  | _ => .Pass ⟨0, 0, 0, 0⟩
def defArgs (s : Stmt) : Arguments := match s with
  | .FunctionDef _ a _ _ _ _ _ _ _ _ => a
  | _ => { posonlyargs := [], args := [], vararg := none, kwonlyargs := [], kw_defaults := [], kwarg := none, defaults := [] }
def defBody (s : Stmt) : List Stmt := match s with
  | .FunctionDef _ _ b _ _ _ _ _ _ _ => b
  | _ => []
def defScope (s : Stmt) : Scope := match s with
  | .FunctionDef _ _ _ _ _ _ sc _ _ _ => sc
  | _ => { kind := .function, names := [], isGenerator := false, isCoroutine := false }

/-! ### no exception leaves a def -/
abbrev CX0 : CXT := fun _ _ _ _ _ _ => False
abbrev E0 : XK := fun _ _ _ => False
theorem pass0 {X : Cx} : Passes CX0 X E0 := fun _ _ _ _ _ _ _ h => h.elim

/-! ### a def (or method) of the text as it stands behind the top -/
structure Fun (K : PySem.W.Frag) (x qual : Str) (st : Stmt) (f : Addr) (fd : FuncData) : Prop where
  ex : ∃ (oc : Value) (od : Option Addr) (kV doc pm : Value) (an : Option Addr) (cdv ct : Value) (osl : Array (Option Value)),
    fd = PySem.W.fnOf x qual (defArgs st) (defBody st) (defScope st) .none kV doc pm an cdv ct ∧ K.lookup f = some ⟨oc, od, .func fd, osl⟩ ∧ PySem.W.codeIn K cdv qual = true
  kp : PySem.W.keepIn K (.ref f) = true
section
variable {P : Program} {w : World} {K : PySem.W.Frag} {mg : Str → Option Value} {base : Heap}
/-- THE RULE for a def: its body as a term of rules, and the reading of that term -/
theorem Fun.ok {x qual : Str} {st : Stmt} {f : Addr} {fd : FuncData} {N ps : List Str} {k : Nat} {sp : Sp} (F : Fun K x qual st f fd) (S : FnScope N ps (defScope st)) (len : ∀ vs H Q E, sp vs H Q E → vs.length = ps.length)
    (hbody : ∀ (cdv : Value) (A : Around) (outer : List Env) (s : Shared) (H : Hp) (vs : List V) (Q : VK) (E : XK), Room k (A.deeper (envOfC qual (defScope st) s.heap.objs.size f cdv)) → sp vs H Q E →
      ∃ t, PSs (cxOf CX0 P w K mg base N qual (defScope st) f cdv A outer s H E).nox (defBody st) t ∧ t { nx := fun _ H' => Q .non H', rt := Q } (start N vs) H) : FnOk P w K mg base CX0 (k + 1) f fd ps sp := by
  obtain ⟨oc, od, kV, doc, pm, an, cdv, ct, osl, rfl, lk, hcd⟩ := F.ex
  refine fn_of lk hcd S len fun A outer s H vs Q E hr hsp => ?_
  obtain ⟨t, h, q⟩ := hbody cdv A outer s H vs Q E hr hsp
  exact ⟨t, h.nox, q⟩
/-- how its arguments bind (no defaults): h is «fun _ _ _ _ _ _ us hl => match us, hl with | [_, _], _ => rfl», one _ a parameter -/
theorem Fun.binds {x qual : Str} {st : Stmt} {f : Addr} {fd : FuncData} {ps : List Str} (F : Fun K x qual st f fd)
    (h : ∀ (kV doc pm : Value) (an : Option Addr) (cdv ct : Value) (us : List Value), us.length = ps.length → bindArgs (PySem.W.fnOf x qual (defArgs st) (defBody st) (defScope st) .none kV doc pm an cdv ct) ⟨us, []⟩ = pure (ps.zip us)) : Binds K fd ps [] := by
  obtain ⟨oc, od, kV, doc, pm, an, cdv, ct, osl, rfl, lk, hcd⟩ := F.ex
  exact .all (h kV doc pm an cdv ct)
theorem fun_mk {x qual : Str} {st : Stmt} {f : Addr} {oc : Value} {od an : Option Addr} {osl : Array (Option Value)} {kV doc pm cdv ct : Value} (l : K.lookup f = some ⟨oc, od, .func (PySem.W.fnOf x qual (defArgs st) (defBody st) (defScope st) .none kV doc pm an cdv ct), osl⟩)
    (c : PySem.W.codeIn K cdv qual = true) (k : PySem.W.keepIn K (.ref f) = true) : Fun K x qual st f (PySem.W.fnOf x qual (defArgs st) (defBody st) (defScope st) .none kV doc pm an cdv ct) := ⟨⟨oc, od, kV, doc, pm, an, cdv, ct, osl, rfl, l, c⟩, k⟩
end
theorem small1000 {n : Nat} (h : n ≤ 1000) : n < sizeLine := Nat.lt_of_le_of_lt h (by decide)

/-! ### expressions in short: the name that stands in the i-th slot -/
section
variable {X : Cx}
theorem pv (i : Nat) {x : Str} {pos : Pos} (hN : X.N[i]? = some x := by rfl) (hv : Vis X.env.scope x := by first | exact Or.inl rfl | exact Or.inr (Or.inl rfl) | exact Or.inr (Or.inr rfl)) (hd : (x == ("__debug__" : Str)) = false := by decide)
    (hcd : (x == ("__classdict__" : Str)) = false := by decide) : PE X (.Name x pos) (tVar i) := pe_var hN hv hd hcd
end

/-! ### tests -/
theorem iteF {A B : Prop} (h : B) : if false = true then A else B := by
  rw [if_neg Bool.false_ne_true]
  exact h
theorem iteT {A B : Prop} (h : A) : if true = true then A else B := by
  rw [if_pos rfl]
  exact h
theorem ite2 {c A B : Prop} [Decidable c] (h1 : c → A) (h2 : ¬ c → B) : if c then A else B := by
  by_cases h : c
  · rw [if_pos h]
    exact h1 h
  · rw [if_neg h]
    exact h2 h
/-! ### heaps -/
/-- all that was tracked is as it was -/
def Same (H H' : Hp) : Prop := ∀ b o, H b = some o → H' b = some o
theorem Same.refl (H : Hp) : Same H H := fun _ _ h => h
theorem Same.trans {H H1 H2 : Hp} (a : Same H H1) (b : Same H1 H2) : Same H H2 := fun c o h => b c o (a c o h)
theorem Same.seq {K : PySem.W.Frag} {H H' : Hp} {a : Addr} {xs : List V} (e : Same H H') (h : SqL K H a xs) : SqL K H' a xs := by
  rcases h with (h | ⟨o, h⟩) | h
  · exact .inl (.inl (e _ _ h))
  · exact .inl (.inr ⟨o, e _ _ h⟩)
  · exact .inr h

end L2

namespace GM
/-- the greatest common divisor, as an int -/
def G (a b : Int) : Int := (Int.gcd a b : Int)
theorem G_zero {a : Int} (h : 0 ≤ a) : G a 0 = a := by
  unfold G
  rw [Int.gcd_zero_right]
  omega
theorem G_step (a b : Int) : G b (a % b) = G a b := by
  unfold G
  congr 1
  have e : a % b = a - b * (a / b) := by
    have := Int.emod_add_mul_ediv a b
    omega
  rw [e, Int.gcd_sub_mul_left_right, Int.gcd_comm]
theorem G_pos {a b : Int} (h : 0 < b) : 0 < G a b := by
  unfold G
  have : 0 < Int.gcd a b := Int.gcd_pos_of_ne_zero_right a (by omega)
  omega
theorem G_dvd_l (a b : Int) : G a b ∣ a := Int.gcd_dvd_left a b
theorem G_dvd_r (a b : Int) : G a b ∣ b := Int.gcd_dvd_right a b
theorem G_le_r {a b : Int} (h : 0 < b) : G a b ≤ b := Int.le_of_dvd h (G_dvd_r a b)
/-- an amount in lowest terms -/
structure Amt (t b : Int) : Prop where
  t0 : 0 ≤ t
  b1 : 1 ≤ b
  g : G t b = 1
theorem low_amt {t b : Int} (h0 : 0 ≤ t) (h1 : 1 ≤ b) : Amt (t / G t b) (b / G t b) := by
  have gp := G_pos (a := t) (b := b) (by omega)
  refine ⟨Int.ediv_nonneg h0 (by omega), Int.ediv_pos_of_pos_of_dvd (by omega) (by omega) (G_dvd_r t b), ?_⟩
  unfold G at *
  have := Int.gcd_ediv_gcd_ediv_gcd (i := t) (j := b) (by omega)
  omega
end GM

namespace L2
open PySem PySem.Spec PyProof.Rows
/-! ### isinstance against a built-in type -/
inductive Isi (K : PySem.W.Frag) (H : Hp) : V → String → Bool → Prop where
  | int_int {n} : Isi K H (.int n) "int" true
  | int_bool {n} : Isi K H (.int n) "bool" false
  | int_tuple {n} : Isi K H (.int n) "tuple" false
  | int_str {n} : Isi K H (.int n) "str" false
  | int_list {n} : Isi K H (.int n) "list" false
  | bl_int {b} : Isi K H (.bl b) "int" true
  | bl_bool {b} : Isi K H (.bl b) "bool" true
  | bl_tuple {b} : Isi K H (.bl b) "tuple" false
  | bl_str {b} : Isi K H (.bl b) "str" false
  | str_int {x} : Isi K H (.str x) "int" false
  | str_bool {x} : Isi K H (.str x) "bool" false
  | str_tuple {x} : Isi K H (.str x) "tuple" false
  | str_str {x} : Isi K H (.str x) "str" true
  | non_int : Isi K H .non "int" false
  | non_str : Isi K H .non "str" false
  | non_tuple : Isi K H .non "tuple" false
  | tup_tuple {a xs} : SqT K H a xs → Isi K H (.ref a) "tuple" true
  | tup_int {a xs} : SqT K H a xs → Isi K H (.ref a) "int" false
  | tup_str {a xs} : SqT K H a xs → Isi K H (.ref a) "str" false
  | tup_list {a xs} : SqT K H a xs → Isi K H (.ref a) "list" false
  | lst_tuple {a xs} : SqL K H a xs → Isi K H (.ref a) "tuple" false
  | lst_int {a xs} : SqL K H a xs → Isi K H (.ref a) "int" false
  | lst_str {a xs} : SqL K H a xs → Isi K H (.ref a) "str" false
  | lst_list {a xs} : SqL K H a xs → Isi K H (.ref a) "list" true
section
variable {X : Cx}
theorem call_isi : CallR X (.builtin "isinstance") (fun xs H Q => ∃ x T b, xs = [x, .ty T] ∧ Isi X.K H x T b ∧ Q (.bl b) H) := by
  intro pins s σ H xs us Q I r h
  obtain ⟨x, T, b, rfl, hi, q⟩ := h
  obtain ⟨u, w', rfl, rx, ry⟩ := vals2 r
  cases ry
  have f1 : EP X pins σ Q (.bool b) s := ⟨.bl b, H, I, rfl, q⟩
  have f2 : EP X pins σ Q (.bool b) { s with toks := s.toks + 1 } := ⟨.bl b, H, I.tok _, rfl, q⟩
  cases hi with
  | int_int => obtain ⟨t, rfl⟩ := rx; exact IsiPair.int_int f1
  | int_bool => obtain ⟨t, rfl⟩ := rx; exact IsiPair.int_bool f2
  | int_tuple => obtain ⟨t, rfl⟩ := rx; exact IsiPair.int_tuple f2
  | int_str => obtain ⟨t, rfl⟩ := rx; exact IsiPair.int_str f2
  | int_list => obtain ⟨t, rfl⟩ := rx; exact IsiPair.int_list f2
  | bl_int => cases rx; exact IsiPair.bool_int f1
  | bl_bool => cases rx; exact IsiPair.bool_bool f1
  | bl_tuple => cases rx; exact IsiPair.bool_tuple f2
  | bl_str => cases rx; exact IsiPair.bool_str f2
  | str_int => obtain ⟨t, rfl⟩ := rx; exact IsiPair.str_int f2
  | str_bool => obtain ⟨t, rfl⟩ := rx; exact IsiPair.str_bool f2
  | str_tuple => obtain ⟨t, rfl⟩ := rx; exact IsiPair.str_tuple f2
  | str_str => obtain ⟨t, rfl⟩ := rx; exact IsiPair.str_str f1
  | non_int => cases rx; exact IsiPair.NoneType_int f2
  | non_str => cases rx; exact IsiPair.NoneType_str f2
  | non_tuple => cases rx; exact IsiPair.NoneType_tuple f2
  | tup_tuple hq => cases rx; obtain ⟨its, _, ⟨o, e, c, _⟩, _⟩ := I.tuple hq; exact IsiPair.tuple_tuple e c f1
  | tup_int hq => cases rx; obtain ⟨its, _, ⟨o, e, c, _⟩, _⟩ := I.tuple hq; exact IsiPair.tuple_int e c f2
  | tup_str hq => cases rx; obtain ⟨its, _, ⟨o, e, c, _⟩, _⟩ := I.tuple hq; exact IsiPair.tuple_str e c f2
  | tup_list hq => cases rx; obtain ⟨its, _, ⟨o, e, c, _⟩, _⟩ := I.tuple hq; exact IsiPair.tuple_list e c f2
  | lst_tuple hq => cases rx; obtain ⟨its, _, ⟨o, n, e, c, _⟩, _⟩ := I.list hq; exact IsiPair.list_tuple e c f2
  | lst_int hq => cases rx; obtain ⟨its, _, ⟨o, n, e, c, _⟩, _⟩ := I.list hq; exact IsiPair.list_int e c f2
  | lst_str hq => cases rx; obtain ⟨its, _, ⟨o, n, e, c, _⟩, _⟩ := I.list hq; exact IsiPair.list_str e c f2
  | lst_list hq => cases rx; obtain ⟨its, _, ⟨o, n, e, c, _⟩, _⟩ := I.list hq; exact IsiPair.list_list e c f1
/-! ### is, is not of bools -/
/-! ### == and != of tuples, at any depth: what the comparison tells -/
inductive DEq (K : PySem.W.Frag) (H : Hp) : Nat → V → V → Bool → Prop where
  | flat {n x y} : flatV x = true → flatV y = true → DEq K H n x y (eqV x y)
  | same {n a} : DEq K H n (.ref a) (.ref a) true
  | tup {n a b xs ys} {e : Nat → Bool} : a ≠ b → SqT K H a xs → SqT K H b ys → (∀ (j : Nat) x y, xs[j]? = some x → ys[j]? = some y → DEq K H n x y (e j)) →
      DEq K H (n + 1) (.ref a) (.ref b) ((List.range (min xs.length ys.length)).all e && xs.length == ys.length)
  | lst {n a b xs ys} {e : Nat → Bool} : a ≠ b → SqL K H a xs → SqL K H b ys → (∀ (j : Nat) x y, xs[j]? = some x → ys[j]? = some y → DEq K H n x y (e j)) →
      DEq K H (n + 1) (.ref a) (.ref b) ((List.range (min xs.length ys.length)).all e && xs.length == ys.length)
theorem tups_at {pins : List (Addr × Obj)} {σ : St} {H : Hp} {s : Shared} (I : Inv X pins σ H s) {A : Around} {a b : Addr} {xs ys : List V} {e : Nat → Bool} (hx : SqT X.K H a xs) (hy : SqT X.K H b ys) (hu : A.units < cLine)
    (hd : ∀ (j : Nat) x y u v, xs[j]? = some x → ys[j]? = some y → RelV x u → RelV y v → SeqAt.EqAt A.in1 s u v (e j)) :
    SeqAt.RcAt A s (.ref a) (.ref b) ((List.range (min xs.length ys.length)).all e && xs.length == ys.length) := by
  obtain ⟨its, r, tx, _⟩ := I.tuple hx
  obtain ⟨its', r', ty, _⟩ := I.tuple hy
  have l1 := r.length
  have l2 := r'.length
  have q := SeqAt.RcAt.tuples (A := A) (e := e) tx ty hu (fun j h1 h2 => ?_)
  · rw [List.size_toArray, List.size_toArray, ← l1, ← l2] at q
    exact q
  · rw [List.size_toArray] at h1 h2
    obtain ⟨x, hxj⟩ : ∃ x, xs[j]? = some x := ⟨_, List.getElem?_eq_getElem (by omega)⟩
    obtain ⟨y, hyj⟩ : ∃ y, ys[j]? = some y := ⟨_, List.getElem?_eq_getElem (by omega)⟩
    obtain ⟨u1, hu1, ru1⟩ := r.get hxj
    obtain ⟨u2, hu2, ru2⟩ := r'.get hyj
    have e1 : its.toArray[j] = u1 := by
      have := (List.getElem?_eq_some_iff.mp hu1).2
      simpa using this
    have e2 : its'.toArray[j] = u2 := by
      have := (List.getElem?_eq_some_iff.mp hu2).2
      simpa using this
    rw [e1, e2]
    exact hd j x y u1 u2 hxj hyj ru1 ru2
theorem isList_of {h : Heap} {a : Addr} {its : Array Value} (p : PlainL h a its) : h.IsList a its := by
  obtain ⟨o, n, e, c, _, d⟩ := p
  exact ⟨o, e, c, n, d⟩
theorem lsts_at {pins : List (Addr × Obj)} {σ : St} {H : Hp} {s : Shared} (I : Inv X pins σ H s) {A : Around} {a b : Addr} {xs ys : List V} {e : Nat → Bool} (hx : SqL X.K H a xs) (hy : SqL X.K H b ys) (hu : A.units < cLine)
    (hd : ∀ (j : Nat) x y u v, xs[j]? = some x → ys[j]? = some y → RelV x u → RelV y v → SeqAt.EqAt A.in1 s u v (e j)) :
    SeqAt.RcAt A s (.ref a) (.ref b) ((List.range (min xs.length ys.length)).all e && xs.length == ys.length) := by
  obtain ⟨its, r, tx, _⟩ := I.list hx
  obtain ⟨its', r', ty, _⟩ := I.list hy
  have l1 := r.length
  have l2 := r'.length
  by_cases hl : xs.length = ys.length
  · have q := SeqAt.RcAt.lists (A := A) (e := e) (isList_of tx) (isList_of ty) (by rw [List.size_toArray, List.size_toArray]; omega) hu (fun j h1 h2 => ?_)
    · rw [List.size_toArray, ← l1] at q
      have e1 : ((List.range (min xs.length ys.length)).all e && xs.length == ys.length) = (List.range xs.length).all e := by
        rw [← hl, Nat.min_self, beq_self_eq_true, Bool.and_true]
      rw [e1]
      exact q
    · rw [List.size_toArray] at h1 h2
      obtain ⟨x, hxj⟩ : ∃ x, xs[j]? = some x := ⟨_, List.getElem?_eq_getElem (by omega)⟩
      obtain ⟨y, hyj⟩ : ∃ y, ys[j]? = some y := ⟨_, List.getElem?_eq_getElem (by omega)⟩
      obtain ⟨u1, hu1, ru1⟩ := r.get hxj
      obtain ⟨u2, hu2, ru2⟩ := r'.get hyj
      have e1 : its.toArray[j] = u1 := by
        have := (List.getElem?_eq_some_iff.mp hu1).2
        simpa using this
      have e2 : its'.toArray[j] = u2 := by
        have := (List.getElem?_eq_some_iff.mp hu2).2
        simpa using this
      rw [e1, e2]
      exact hd j x y u1 u2 hxj hyj ru1 ru2
  · have q := SeqAt.RcAt.lists_lengths (A := A) (isList_of tx) (isList_of ty) (by rw [List.size_toArray, List.size_toArray, ← l1, ← l2, bne_iff_ne]; exact hl) hu
    have e1 : ((List.range (min xs.length ys.length)).all e && xs.length == ys.length) = false := by
      rw [beq_eq_false_iff_ne.mpr hl, Bool.and_false]
    rw [e1]
    exact q
theorem DEq.at {pins : List (Addr × Obj)} {σ : St} {H : Hp} {s : Shared} (I : Inv X pins σ H s) {n : Nat} {x y : V} {k : Bool} (d : DEq X.K H n x y k) : ∀ {A : Around} {u v : Value}, A.units + n < cLine → RelV x u → RelV y v → SeqAt.EqAt A s u v k := by
  induction d with
  | flat fx fy => intro A u v _ rx ry; exact eqAt_V rx ry fx fy
  | same => intro A u v _ rx ry; cases rx; cases ry; exact SeqAt.EqAt.same _
  | @tup n a b xs ys e hne hx hy hd ih =>
    intro A u v hu rx ry
    cases rx; cases ry
    exact SeqAt.EqAt.of_refs hne (tups_at I hx hy (by omega) fun j x y u v h1 h2 r1 r2 => ih j x y h1 h2 (by show A.units + 1 + n < cLine; omega) r1 r2)
  | @lst n a b xs ys e hne hx hy hd ih =>
    intro A u v hu rx ry
    cases rx; cases ry
    exact SeqAt.EqAt.of_refs hne (lsts_at I hx hy (by omega) fun j x y u v h1 h2 r1 r2 => ih j x y h1 h2 (by show A.units + 1 + n < cLine; omega) r1 r2)
/-- == of two tuples; the items' answers e -/
def rEqT (K : PySem.W.Frag) : R2 := fun x y H Q => ∃ a b xs ys, ∃ e : Nat → Bool, x = .ref a ∧ y = .ref b ∧ SqT K H a xs ∧ SqT K H b ys ∧ (∀ (j : Nat) x y, xs[j]? = some x → ys[j]? = some y → DEq K H 40 x y (e j)) ∧
  Q (.bl ((List.range (min xs.length ys.length)).all e && xs.length == ys.length)) H
def rNeT (K : PySem.W.Frag) : R2 := fun x y H Q => ∃ a b xs ys, ∃ e : Nat → Bool, x = .ref a ∧ y = .ref b ∧ SqT K H a xs ∧ SqT K H b ys ∧ (∀ (j : Nat) x y, xs[j]? = some x → ys[j]? = some y → DEq K H 40 x y (e j)) ∧
  Q (.bl (!((List.range (min xs.length ys.length)).all e && xs.length == ys.length))) H
end
end L2

namespace L2
open PySem PySem.Spec PyProof.Rows
/-! ### a list comprehension of one clause -/
/-- the loop of a comprehension, a turn at a time -/
theorem compLoop_gen {prog : Program} {w : World} {A : Around} {R : Result → Shared → Prop} {s : Shared} {elt target iter : Expr} {ifs : List Expr} {scope : Scope} {pos : Pos} {it acc : Value} {env : Env} (I : Nat → Shared → Prop)
    (turn : ∀ n s, I n s → wpAny (model prog w) A (pyNext it) (fun r s₁ => match r with
      | none => R (.ok .next) s₁
      | some v => wpAny (model prog w) A (letOwnedTupleGo target it v) (fun _ s₁' => wpAny (model prog w) A (assign target env v) (fun _ s₂ =>
          wpAny (model prog w) A (forIn ifs true fun c r => if r = true then do let ok ← isTrue c env (eval c env); pure (ForInStep.yield ok) else pure (ForInStep.yield r)) (fun ok s₃ =>
            if ok = true then wpAny (model prog w) A (eval elt env) (fun x s₄ =>
              wpAny (model prog w) A (call (.builtin "list.append") [acc, x]) (fun _ s₅ => ∃ m, m < n ∧ I m s₅) (fun _ _ => False) s₄) (fun _ _ => False) s₃
            else ∃ m, m < n ∧ I m s₃) (fun _ _ => False) s₂) (fun _ _ => False) s₁') (fun _ _ => False) s₁) (fun _ _ => False) s)
    (n : Nat) (h : I n s) : codeAny (model prog w) A (.compLoop (.ListComp elt [⟨target, iter, ifs, 0⟩] scope pos) 0 it acc env) R s := by
  refine codeAny_loop rfl I (fun n s hI => ?_) n h
  show wpAny _ A ((compTurn (.ListComp elt [⟨target, iter, ifs, 0⟩] scope pos) 0 it acc env).onRaise (fun x => do noteFrame x env; theTreesLotGoes x)) _ _ s
  refine wpAny_noted ?_
  rw [compTurn_list]
  refine wpAny_bind (wpAny_standAt (wpAny_bind (wpAny_mono (turn n s hI) (fun r s₁ h₁ => ?_) fun _ _ z => z.elim)))
  cases r with
  | none => exact wpAny_pure h₁
  | some v =>
    refine wpAny_bind (wpAny_mono h₁ (fun _ s₁' h₁' => ?_) fun _ _ z => z.elim)
    refine wpAny_bind (wpAny_mono h₁' (fun _ s₂ h₂ => wpAny_bind (wpAny_mono h₂ (fun ok s₃ h₃ => ?_) fun _ _ z => z.elim)) fun _ _ z => z.elim)
    cases ok with
    | false => exact wpAny_pure ⟨rfl, h₃⟩
    | true =>
      exact wpAny_bind (wpAny_bind (wpAny_mono h₃ (fun x s₄ h₄ => wpAny_bind (wpAny_mono h₄ (fun _ s₅ h₅ => wpAny_pure (wpAny_pure ⟨rfl, h₅⟩)) fun _ _ z => z.elim)) fun _ _ z => z.elim))
/-- the block's context -/
def blk (X : Cx) (N' : List Str) (scope : Scope) (cl : List (Str × Addr)) (C : Addr) (s₀ : Shared) (H₀ : Hp) (ex : List Addr) (pn : List (Addr × Obj)) : Cx where
  prog := X.prog
  w := X.w
  K := X.K
  mg := X.mg
  base := X.base
  A := X.A
  N := N'
  s₀ := s₀
  H₀ := H₀
  env := compEnvC scope cl C X.env
  outer := X.stack
  stack := X.stack
  ex := ex
  fn := fun _ => false
  calm := X.calm
  pn := pn
  xe := fun _ _ => False
structure ClOk (X : Cx) (scope : Scope) (cl : List (Str × Addr)) : Prop where
  run : closureFor scope X.env = pure cl
  sub : ∀ x c, cl.lookup x = some c → X.env.cells.lookup x = some c
  has : ∀ x, ((relabel scope X.env).names.lookup x = some .cell ∨ (relabel scope X.env).names.lookup x = some .free) → ∃ c, cl.lookup x = some c
/-- the names that the block takes over stand in cells -/
structure BlkN (X : Cx) (N' : List Str) (scope : Scope) (cl : List (Str × Addr)) (σ σ' : St) : Prop where
  len : σ'.length = N'.length
  from' : ∀ (i : Nat) (x : Str) (v : V), N'[i]? = some x → σ'[i]? = some (some v) → ∃ j : Nat, X.N[j]? = some x ∧ σ[j]? = some (some v) ∧ Vis X.env.scope x ∧ X.env.kindOf x ≠ some .local ∧
    ((relabel scope X.env).names.lookup x = some .cell ∨ (relabel scope X.env).names.lookup x = some .free)
section
variable {X : Cx} {pins : List (Addr × Obj)} {σ σ' : St} {H : Hp} {s : Shared}
theorem blk_start {N' : List Str} {scope : Scope} {cl : List (Str × Addr)} {fp : List Addr} {h₁ : Heap} {t' : Nat} (I : Inv X pins σ H s) (hkind : scope.kind = .function) (hcl : ClOk X scope cl) (hN : BlkN X N' scope cl σ σ') (hf : ∀ b ∈ fp, FpOk X pins H b) (hfo : ∀ b ∈ fp, b < s.heap.objs.size)
    (hns : h₁.Ns s.heap.objs.size (fun _ => none)) (hk : ∀ b o, s.heap.get? b = some o → h₁.get? b = some o) :
    Inv (blk X N' scope cl s.heap.objs.size s H fp (X.pn ++ pins)) [] σ' H { s with heap := h₁, toks := t' } := by
  have hfs : ∀ b, b ∉ (X.env.locals :: X.fs) → b ∉ frs X.stack := fun b hb z => hb (I.stkSub b z)
  refine ⟨⟨I.ok.mod, hkind, I.ok.glob, I.ok.blt, Nat.le_refl _, ?_, hcl.has, fun _ _ h => absurd h (by intro z; cases z), I.ok.hd, I.ok.frames, .inl rfl, ?_, I.bs, Nat.le_trans I.ok.bsz I.sz, ?_, ?_, I.stack, I.stkFree⟩,
    rfl, I.bare, Un.kept hk, ⟨_, hns, ?_⟩, ?_, I.hok.fresh (Nat.le_refl _), fun x c e => I.freeC x c (hcl.sub x c e), ?_, I.hok.kept hk, hN.len⟩
  · intro x y c h1 h2
    exact I.ok.inj x y c (hcl.sub x c h1) (hcl.sub y c h2)
  · intro b hb
    exact ⟨Nat.ne_of_lt (hfo b hb), fun x c e => (hf b hb).2.2.2.2.1 x c (hcl.sub x c e)⟩
  · intro b o e hb
    rcases (hf b hb).2.2.2.1 with q | q
    · exact I.ok.noex b o e q
    · exact absurd (Nat.lt_of_lt_of_le (Heap.lt_size e) (Nat.le_trans I.ok.bsz q)) (Nat.lt_irrefl _)
  · intro b hb
    refine hfs b fun z => ?_
    rcases List.mem_cons.mp z with z | z
    · exact (hf b hb).2.1 z
    · exact (hf b hb).2.2.1 z
  · intro i x v h1 h2 _
    obtain ⟨j, hj, hσ, hv, hnl, hk'⟩ := hN.from' i x v h1 h2
    obtain ⟨m, hn, hl⟩ := I.loc
    obtain ⟨u, r, l⟩ := hl j x v hj hσ hv
    refine ⟨u, r, .inr ⟨hk', ?_⟩⟩
    obtain ⟨c, hc⟩ := hcl.has x hk'
    rcases l with ⟨hloc, _⟩ | ⟨_, c', hc', hcell⟩
    · exact absurd hloc hnl
    · have e := hcl.sub x c hc
      rw [hc'] at e
      cases e
      obtain ⟨o, ho, hd⟩ := hcell
      exact ⟨_, hc, o, hk _ _ ho, hd⟩
  · intro x c e
    obtain ⟨v, o, ho, hd⟩ := I.cell x c (hcl.sub x c e)
    exact ⟨v, o, hk _ _ ho, hd⟩
  · intro p hp
    rw [show (blk X N' scope cl s.heap.objs.size s H fp (X.pn ++ pins)).pn = X.pn ++ pins from rfl, List.append_nil] at hp
    obtain ⟨a1, a2, a3, a4, a5⟩ := I.pin p hp
    refine ⟨hk _ _ a1, a2, Nat.ne_of_lt (Heap.lt_size a1), hfs _ fun z => ?_, a5⟩
    rcases List.mem_cons.mp z with z | z
    · exact a3 z
    · exact a4 z
theorem blk_end {N' : List Str} {scope : Scope} {cl : List (Str × Addr)} {fp : List Addr} {pl : List (Addr × Obj)} {H' : Hp} {s' : Shared} {h'' : Heap} (I : Inv X pins σ H s) (hf : ∀ b ∈ fp, FpOk X pins H b)
    (J : Inv (blk X N' scope cl s.heap.objs.size s H fp (X.pn ++ pins)) pl σ' H' s') (hs : Heap.SameBut s.heap.objs.size s'.heap h'') : Inv X pins σ H' { s' with heap := h'' } := by
  have hne : ∀ b o, s.heap.get? b = some o → b ≠ s.heap.objs.size := fun b o e => Nat.ne_of_lt (Heap.lt_size e)
  have hC : H' s.heap.objs.size = none := J.free
  have ub : Un (frs X.stack) fp H H' s.heap s'.heap := J.base
  have u : Un (frs X.stack) fp H H' s.heap h'' := {
    keep := fun b o e n hb hx => hs.extBut b o (hne b o e) (ub.keep b o e n hb hx)
    slot := fun b o e n hb hx => by
      obtain ⟨sl, q⟩ := ub.slot b o e n hb hx
      exact ⟨sl, hs.extBut b _ (hne b o e) q⟩
    free := ub.free
    there := fun b o e hx => by
      obtain ⟨o', q⟩ := ub.there b o e hx
      exact ⟨o', hs.extBut b _ (hne b o e) q⟩
    tups := ub.tups
    frzs := ub.frzs
    tbls := ub.tbls }
  have hok : HOk X.prog X.w H' h'' := fun a o e => (J.hok a o e).stay (fun b ob hb q => hs.extBut b ob (fun z => by
    rw [z] at hb
    rcases hb with hb | hb
    · rw [← hb, hC] at e; cases e
    · rw [hC] at hb; cases hb) q) (fun _ h => h) (fun _ _ h => h)
  exact I.call' (s' := { s' with heap := h'' }) J.os u hok J.bare fun b hb => by
    obtain ⟨f0, f1, f2, f3, f4, f5⟩ := hf b hb
    exact ⟨f3, f1, f4, f5⟩
end
end L2

namespace L2
open PySem PySem.Spec PyProof.Rows
/-- the tests of a clause -/
def PIfs (X : Cx) (ifs : List Expr) (t : TT) : Prop :=
  ∀ (pins : List (Addr × Obj)) (s : Shared) (σ : St) (H : Hp) (Q : Bool → Hp → Prop), Inv X pins σ H s → t σ H Q →
    wpAny (model X.prog X.w) X.A (forIn ifs true fun c r => if r = true then do let ok ← isTrue c X.env (eval c X.env); pure (ForInStep.yield ok) else pure (ForInStep.yield r)) (TP X pins σ Q) X.xe s
def tNoIf : TT := fun _ H Q => Q true H
theorem pifs_nil {X : Cx} : PIfs X [] tNoIf := fun _ _ _ H _ I h => wpAny_tests_nil ⟨H, I, h⟩
/-- the slots that were filled are as they were -/
structure Keep (σa σb : St) : Prop where
  len : σb.length = σa.length
  at' : ∀ (i : Nat) (v : V), σa[i]? = some (some v) → σb[i]? = some (some v)
theorem Keep.refl (σ : St) : Keep σ σ := ⟨rfl, fun _ _ h => h⟩
theorem Keep.set {σa σb : St} {i : Nat} {v : V} (k : Keep σa σb) (h : σa[i]? = some none) : Keep σa (σb.set i (some v)) := by
  refine ⟨by rw [List.length_set]; exact k.len, fun j u e => ?_⟩
  have hj : i ≠ j := by
    rintro rfl
    rw [h] at e
    cases e
  rw [List.getElem?_set_ne hj]
  exact k.at' j u e
def tComp (σf : St → St) (wi : TI) (g : TG) (tt : TT) (te : TE) : TE := fun σ H Q => wi σ H fun J H1 => ∀ D, H1 D = none → ∃ W : Nat → Nat → List V → Hp → Prop, (∃ m, W 0 m [] (upd H1 D (.lst []))) ∧
  ∀ i m ys H, W i m ys H → H D = some (.lst ys) ∧ ys.length < sizeLine ∧
    ((J.stop i H ∧ Q (.ref D) H) ∨ (J.go i H ∧ ∀ x H', J.yld i H x H' → g x (σf σ) H' fun σ2 H2 => Keep (σf σ) σ2 ∧ tt σ2 H2 fun b H3 =>
      if b = true then te σ2 H3 fun y H4 => H4 D = some (.lst ys) ∧ ∃ m', m' < m ∧ W (i + 1) m' (ys ++ [y]) (upd H4 D (.lst (ys ++ [y]))) else ∃ m', m' < m ∧ W (i + 1) m' ys H3))
theorem pe_comp {X : Cx} {elt tg iter : Expr} {ifs : List Expr} {scope : Scope} {pos : Pos} {N' : List Str} {cl : List (Str × Addr)} {wi : TI} {g : TG} {tt : TT} {te : TE} (σf : St → St)
    (hc : X.calm = true) (hkind : scope.kind = .function) (hcell : ∀ y ∈ scope.names, y.2 ≠ .cell) (hnames : ∀ y ∈ scope.names, y.2 = .local → scope.names.lookup y.1 = some .local) (hcl : ClOk X scope cl)
    (hN : ∀ σ : St, σ.length = X.N.length → BlkN X N' scope cl σ (σf σ)) (hi : PI X tg iter wi)
    (hg : ∀ C s₀ H₀ ex pn, PG (blk X N' scope cl C s₀ H₀ ex pn) tg g) (ht : ∀ C s₀ H₀ ex pn, PIfs (blk X N' scope cl C s₀ H₀ ex pn) ifs tt) (he : ∀ C s₀ H₀ ex pn, PE (blk X N' scope cl C s₀ H₀ ex pn) elt te)
    (hs : ∀ x, foldedSetIterable iter X.env x = pure x := by intro _; rfl) : PE X (.ListComp elt [⟨tg, iter, ifs, 0⟩] scope pos) (tComp σf wi g tt te) := by
  intro pins s σ H Q I h
  rw [eval_ListComp]
  refine wpAny_comprehension_free (use := none) rfl hs hcl.run hkind hnames (thn (hi pins s σ H _ I h) fun v s1 h1 => thn h1 fun itv s2 h2 => ?_)
  obtain ⟨it, fp, tn, J, H2, rfl, I2, T, st2, f2, q⟩ := h2
  refine wpAny_newObj_type (wpAny_newFunctionEnv hcell (by intro y hy; simp at hy) (fun h₁ hns₁ hsb₁ => ?_) hkind)
  dsimp only at hns₁ hsb₁ ⊢
  have hfo : ∀ b ∈ fp, b < s2.heap.objs.size := fun b hb => by
    obtain ⟨o, e, _⟩ := T.obj _ _ st2 b hb
    exact Heap.lt_size e
  have hDf : H2 s2.heap.objs.size = none := I2.hok.fresh (Nat.le_refl _)
  obtain ⟨W, ⟨m0, w0⟩, turn⟩ := q s2.heap.objs.size hDf
  have I3 : Inv X pins σ (upd H2 s2.heap.objs.size (.lst [])) { s2 with heap := s2.heap.push { cls := .type "list", data := .seq ([] : List Value).toArray } } := I2.lnew (its := []) (t' := s2.toks) .nil (Nat.zero_le _)
  have f3 : ∀ b ∈ fp, FpOk X pins (upd H2 s2.heap.objs.size (.lst [])) b := fun b hb => ⟨by rw [upd_ne (Nat.ne_of_lt (hfo b hb))]; exact (f2 b hb).1, (f2 b hb).2⟩
  generalize hD : s2.heap.objs.size = D at *
  generalize hs3 : ({ s2 with heap := s2.heap.push { cls := .type "list", data := .seq ([] : List Value).toArray } } : Shared) = s3 at *
  have hh3 : s3.heap = s2.heap.push { cls := .type "list", data := .seq ([] : List Value).toArray } := by rw [← hs3]
  have hsz3 : s2.heap.objs.size < s3.heap.objs.size := by rw [hh3, Heap.size_push]; exact Nat.lt_succ_self _
  have e3 : ∀ h t, ({ s2 with heap := h, toks := t } : Shared) = { s3 with heap := h, toks := t } := fun h t => by rw [← hs3]
  rw [← hh3] at hns₁ hsb₁ ⊢
  have hk3 : ∀ b o, s3.heap.get? b = some o → h₁.get? b = some o := fun b o e => hsb₁.extBut b o (Nat.ne_of_lt (Heap.lt_size e)) (Heap.get?_push_of_some _ e)
  have I4 := blk_start (t' := s3.toks) I3 hkind hcl (hN σ I.len) f3 (fun b hb => Nat.lt_trans (hfo b hb) (hD ▸ hsz3)) (hns := by simpa using hns₁) hk3
  generalize hB : blk X N' scope cl s3.heap.objs.size s3 (upd H2 D (.lst [])) fp (X.pn ++ pins) = B at *
  have hBp : B.prog = X.prog := by rw [← hB]; rfl
  have hBw : B.w = X.w := by rw [← hB]; rfl
  have hBK : B.K = X.K := by rw [← hB]; rfl
  have hBA : B.A = X.A := by rw [← hB]; rfl
  have hBc : B.calm = true := by rw [← hB]; exact hc
  have hBe : B.env = compEnvC scope cl s3.heap.objs.size X.env := by rw [← hB]; rfl
  have hBx : B.xe = fun _ _ => False := by rw [← hB]; rfl
  have hGB : PG B tg g := hB ▸ hg _ _ _ _ _
  have hTB : PIfs B ifs tt := hB ▸ ht _ _ _ _ _
  have hEB : PE B elt te := hB ▸ he _ _ _ _ _
  have stat : ∀ {H' : Hp}, (∀ b ∈ fp, H' b = none) → ∀ b ∈ fp, FpOk B [] H' b := fun {H'} hn b hb => by
    obtain ⟨f0, f1, f2', f3', f4, f5⟩ := f3 b hb
    rw [← hB]
    refine ⟨hn b hb, Nat.ne_of_lt (Nat.lt_trans (hfo b hb) (hD ▸ hsz3)), fun z => ?_, .inl hb, fun x c e => f4 x c (hcl.sub x c e), fun p hp => ?_⟩
    · rcases List.mem_cons.mp (I.stkSub b z) with z | z
      · exact f1 z
      · exact f2' z
    · rw [show (blk X N' scope cl s3.heap.objs.size s3 (upd H2 D (.lst [])) fp (X.pn ++ pins)).pn = X.pn ++ pins from rfl, List.append_nil] at hp
      exact f5 p hp
  have loop : ∀ s4 : Shared, Inv B [] (σf σ) (upd H2 D (.lst [])) s4 → tn 0 s4.heap →
      codeAny (model X.prog X.w) X.A (.compLoop (.ListComp elt [⟨tg, iter, ifs, 0⟩] scope pos) 0 (.ref it) (.ref D) (compEnvC scope cl s3.heap.objs.size X.env)) (compPost (model X.prog X.w) X.A X.xe none (EP X pins σ Q) (.ref D) s3.heap.objs.size) s4 := by
    intro s4 I4 st4
    refine compLoop_gen (I := fun n s' => ∃ i ys H', Inv B [] (σf σ) H' s' ∧ tn i s'.heap ∧ (∀ b ∈ fp, H' b = none) ∧ W i n ys H') ?_ m0 ⟨0, [], _, I4, st4, fun b hb => (f3 b hb).1, w0⟩
    rintro n s5 ⟨i, ys, H5, I5, st5, fr5, w5⟩
    obtain ⟨hD5, hlen5, alt⟩ := turn i n ys H5 w5
    rcases alt with ⟨stop, qn⟩ | ⟨go, step⟩
    · have z := T.done B hBp hBw hBK hBc i [] s5 (σf σ) H5 (fun _ _ => False) I5 (stat fr5) st5 stop
      rw [hBA] at z
      refine thn z fun r s6 ⟨hr, I6⟩ => ?_
      subst hr
      obtain ⟨m6, hn6, _⟩ := I6.loc
      rw [hBe] at hn6
      refine ⟨m6, hn6, fun h' hs' => ?_⟩
      subst hB
      exact ⟨.ref D, H5, blk_end I3 f3 I6 hs', rfl, qn⟩
    · have z := T.item B hBp hBw hBK hBc i [] s5 (σf σ) H5 (fun _ _ => False) I5 (stat fr5) st5 go
      rw [hBA] at z
      refine thn z fun r s6 ⟨u, hr, h6⟩ => ?_
      subst hr
      refine thn h6 fun _ s7 ⟨x, H7, I7, r7, y7, st7, fr7⟩ => ?_
      have I7' := I7.pinned (stat fr7) (T.obj _ _ st7)
      have z8 := hGB _ s7 (σf σ) H7 x u _ I7' r7 (step x H7 y7)
      rw [hBp, hBw, hBA, hBe, hBx] at z8
      refine thn z8 fun _ s8 ⟨σ8, H8, I8, k8, q8⟩ => ?_
      have z9 := hTB _ s8 σ8 H8 _ I8 q8
      rw [hBp, hBw, hBA, hBe, hBx] at z9
      refine thn z9 fun ok s9 ⟨H9, I9, q9⟩ => ?_
      have again : ∀ {ys' : List V} {H' : Hp} {s' : Shared}, Inv B ([] ++ pinsAt fp s7.heap) σ8 H' s' → (∃ m', m' < n ∧ W (i + 1) m' ys' H') → ∃ m, m < n ∧ ∃ i ys H', Inv B [] (σf σ) H' s' ∧ tn i s'.heap ∧ (∀ b ∈ fp, H' b = none) ∧ W i m ys H' := fun {ys' H' s'} J ⟨m', hm, w'⟩ => by
        refine ⟨m', hm, i + 1, ys', H', J.unpinned.weak k8.len.symm k8.at', T.keep _ _ _ st7 fun b hb o e => (J.pin (b, o) (List.mem_append_right _ (List.mem_append_right _ (mem_pinsAt hb e)))).1, fun b hb => ?_, w'⟩
        obtain ⟨o, e, d⟩ := T.obj _ _ st7 b hb
        exact (J.pin (b, o) (List.mem_append_right _ (List.mem_append_right _ (mem_pinsAt hb e)))).2.1
      cases ok with
      | false => exact again I9 q9
      | true =>
        have z10 := hEB _ s9 σ8 H9 _ I9 q9
        rw [hBp, hBw, hBA, hBe, hBx] at z10
        refine thn z10 fun y10 s10 ⟨y, H10, I10, r10, hD10, q10⟩ => ?_
        have z11 := mt_append (X := B) _ s10 σ8 H10 (.ref D) [y] (.ref D) [y10] (fun _ H' => ∃ m', m' < n ∧ W (i + 1) m' (ys ++ [y]) H') I10 rfl (.cons r10 .nil) ⟨D, ys, y, rfl, rfl, hD10, hlen5, q10⟩
        rw [hBp, hBw, hBA, hBx] at z11
        refine thn z11 fun _ s11 ⟨_, H11, I11, _, q11⟩ => again I11 q11
  have st4 : tn 0 ({ s3 with heap := h₁, toks := s3.toks } : Shared).heap := T.keep _ _ _ st2 fun b hb o e => hk3 b o (by rw [hh3]; exact Heap.get?_push_of_some _ e)
  have L4 := loop _ I4 st4
  subst hs3
  exact codeAny_compStart_list L4 (T.self _ 0 _ _ _ st4 L4)
end L2

namespace L2
open PySem PySem.Spec PyProof.Rows
/-! ### large ints: sizes in bits -/
def Bt (n : Nat) (x : Int) : Prop := x.natAbs < 2 ^ n
theorem Bt.bits {n : Nat} {x : Int} (h : Bt n x) : Builtin.Int.intBits x ≤ n := intBits_le_iff.mpr h
theorem Bt.of_bits {n : Nat} {x : Int} (h : Builtin.Int.intBits x ≤ n) : Bt n x := intBits_le_iff.mp h
theorem Bt.mono {m n : Nat} {x : Int} (h : Bt m x) (hn : m ≤ n) : Bt n x := Nat.lt_of_lt_of_le h (Nat.pow_le_pow_right (by decide) hn)
theorem Bt.mul {m n : Nat} {x y : Int} (h : Bt m x) (h' : Bt n y) : Bt (m + n) (x * y) := .of_bits (intBits_mul_le h.bits h'.bits)
theorem Bt.add {m : Nat} {x y : Int} (h : Bt m x) (h' : Bt m y) : Bt (m + 1) (x + y) := .of_bits (by have := intBits_add_le h.bits h'.bits; rwa [Nat.max_self] at this)
theorem Bt.le {m : Nat} {x y : Int} (h : Bt m y) (h0 : 0 ≤ x) (hy : x ≤ y) : Bt m x := by
  unfold Bt at *
  omega
theorem log_of {n : Nat} {x : Int} (h : Bt n x) (hp : 0 < x) (hn : n ≤ 9000) : x.natAbs.log2 < 9000 := by
  have : x.natAbs.log2 < n := (Nat.log2_lt (by omega)).mpr h
  omega
def CMulB (i j : Int) : Prop := Bt 1000000 i ∧ Bt 1000000 j
def CDivB (_i j : Int) : Prop := 0 < j ∧ Bt 9000 j
def CPowB (i j : Int) : Prop := 0 ≤ j ∧ j ≤ 1000 ∧ Bt 1000 i
section
variable {X : Cx}
theorem op_mulB : OpR X (binaryOp .Mult) (rI CMulB fun i j => .int (i * j)) := opI fun _ _ _ _ _ _ _ hc q => mul_int q (.of_bits (Nat.le_trans hc.1.bits (by decide)) (Nat.le_trans hc.2.bits (by decide)))
theorem op_fdivB : OpR X (binaryOp .FloorDiv) (rI CDivB fun i j => .int (i / j)) := opI fun i j _ _ _ _ _ hc q => by
  have h1 : (0 : Int) < j := hc.1
  rw [← Int.fdiv_eq_ediv_of_nonneg i (Int.le_of_lt h1)] at q
  exact floordiv_int (by omega) q (.inl (PyProof.noPylong_of_log2 (log_of hc.2 h1 (Nat.le_refl _))))
theorem op_powB : OpR X (binaryOp .Pow) (rI CPowB fun i j => .int (i ^ j.toNat)) := opI fun i j _ _ _ _ _ hc q => by
  obtain ⟨h0, h1, h2⟩ := hc
  refine PyProof.Rows.pow_int h0 ?_ q
  have b := h2.bits
  have e : (2 : Int) ^ 27 = 134217728 := by decide
  have := Int.mul_le_mul (show (Builtin.Int.intBits i : Int) ≤ 1000 by omega) h1 h0 (by decide)
  omega
/-! ### tuples of ints -/
theorem deq_ints {K : PySem.W.Frag} {H : Hp} {n : Nat} (ns ms : List Int) : ∀ (j : Nat) x y, (ns.map V.int)[j]? = some x → (ms.map V.int)[j]? = some y → DEq K H n x y (ns[j]? == ms[j]?) := by
  intro j x y h1 h2
  rw [List.getElem?_map] at h1 h2
  cases e1 : ns[j]? with
  | none => rw [e1] at h1; cases h1
  | some a =>
    cases e2 : ms[j]? with
    | none => rw [e2] at h2; cases h2
    | some b =>
      rw [e1] at h1
      rw [e2] at h2
      cases h1
      cases h2
      have : (some a == some b) = eqV (V.int a) (V.int b) := by
        show (a == b) = (a == b)
        rfl
      rw [this]
      exact DEq.flat rfl rfl
theorem all_ints : ∀ (ns ms : List Int), ((List.range (min ns.length ms.length)).all (fun j => ns[j]? == ms[j]?) && ns.length == ms.length) = decide (ns = ms) := by
  intro ns ms
  rw [Bool.eq_iff_iff]
  simp only [Bool.and_eq_true, List.all_eq_true, List.mem_range, beq_iff_eq, decide_eq_true_eq]
  constructor
  · rintro ⟨h, hl⟩
    refine List.ext_getElem? fun i => ?_
    by_cases hi : i < ns.length
    · exact h i (by omega)
    · rw [List.getElem?_eq_none (by omega), List.getElem?_eq_none (by omega)]
  · rintro rfl
    exact ⟨fun _ _ => rfl, rfl⟩
def rEqI (K : PySem.W.Frag) : R2 := fun x y H Q => ∃ a b, ∃ ns ms : List Int, x = .ref a ∧ y = .ref b ∧ SqT K H a (ns.map V.int) ∧ SqT K H b (ms.map V.int) ∧ Q (.bl (decide (ns = ms))) H
def rNeI (K : PySem.W.Frag) : R2 := fun x y H Q => ∃ a b, ∃ ns ms : List Int, x = .ref a ∧ y = .ref b ∧ SqT K H a (ns.map V.int) ∧ SqT K H b (ms.map V.int) ∧ Q (.bl (!decide (ns = ms))) H
theorem nes_at {pins : List (Addr × Obj)} {σ : St} {H : Hp} {s : Shared} (I : Inv X pins σ H s) {A : Around} {a b : Addr} {xs ys : List V} {e : Nat → Bool} (hx : SqT X.K H a xs) (hy : SqT X.K H b ys) (hu : A.units < cLine)
    (hd : ∀ (j : Nat) x y u v, xs[j]? = some x → ys[j]? = some y → RelV x u → RelV y v → SeqAt.EqAt A.in1 s u v (e j)) :
    SeqAt.RcNeAt A s (.ref a) (.ref b) (!((List.range (min xs.length ys.length)).all e && xs.length == ys.length)) := by
  obtain ⟨its, r, tx, _⟩ := I.tuple hx
  obtain ⟨its', r', ty, _⟩ := I.tuple hy
  have l1 := r.length
  have l2 := r'.length
  have q := SeqAt.RcNeAt.tuples (A := A) (e := e) tx ty hu (fun j h1 h2 => ?_)
  · rw [List.size_toArray, List.size_toArray, ← l1, ← l2] at q
    exact q
  · rw [List.size_toArray] at h1 h2
    obtain ⟨x, hxj⟩ : ∃ x, xs[j]? = some x := ⟨_, List.getElem?_eq_getElem (by omega)⟩
    obtain ⟨y, hyj⟩ : ∃ y, ys[j]? = some y := ⟨_, List.getElem?_eq_getElem (by omega)⟩
    obtain ⟨u1, hu1, ru1⟩ := r.get hxj
    obtain ⟨u2, hu2, ru2⟩ := r'.get hyj
    have e1 : its.toArray[j] = u1 := by
      have := (List.getElem?_eq_some_iff.mp hu1).2
      simpa using this
    have e2 : its'.toArray[j] = u2 := by
      have := (List.getElem?_eq_some_iff.mp hu2).2
      simpa using this
    rw [e1, e2]
    exact hd j x y u1 u2 hxj hyj ru1 ru2
theorem op_neT (hu : X.A.units + 64 < cLine) : OpR X (compareOp .NotEq) (rNeT X.K) := by
  intro pins s σ H x y v u Q I rx ry h
  obtain ⟨a, b, xs, ys, e, rfl, rfl, hx, hy, hd, q⟩ := h
  cases rx; cases ry
  exact nes_at I hx hy (by omega) (fun j x y u v h1 h2 r1 r2 => (hd j x y h1 h2).at I (by show X.A.units + 1 + 40 < cLine; omega) r1 r2) X.prog X.w X.xe _ ⟨.bl _, H, I, rfl, q⟩
theorem op_neI (hu : X.A.units + 64 < cLine) : OpR X (compareOp .NotEq) (rNeI X.K) := by
  intro pins s σ H x y v u Q I rx ry h
  obtain ⟨a, b, ns, ms, rfl, rfl, hx, hy, q⟩ := h
  refine op_neT hu pins s σ H _ _ v u Q I rx ry ⟨a, b, _, _, fun j => ns[j]? == ms[j]?, rfl, rfl, hx, hy, deq_ints ns ms, ?_⟩
  rw [List.length_map, List.length_map, all_ints]
  exact q
end
end L2

namespace L2
open PySem PySem.Spec PyProof.Rows
section
variable {X : Cx}
/-- an item of the tuple that a name holds -/
def tIt (K : PySem.W.Frag) (i k : Nat) : TE := fun σ H Q => ∃ p xs v, σ[i]? = some (some (.ref p)) ∧ SqT K H p xs ∧ xs[k]? = some v ∧ Q v H
theorem pit (i k : Nat) {x : Str} {p q : Pos} {j : Nat} (hN : X.N[i]? = some x := by rfl) (hv : Vis X.env.scope x := by first | exact Or.inl rfl | exact Or.inr (Or.inl rfl) | exact Or.inr (Or.inr rfl)) (hd : (x == ("__debug__" : Str)) = false := by decide)
    (hcd : (x == ("__classdict__" : Str)) = false := by decide) {pos : Pos} : PE X (.Subscript (.Name x p) (.Constant (.int (k : Int)) j q) pos) (tIt X.K i k) := by
  intro pins s σ H Q I h
  obtain ⟨a, xs, v, e, hs, hk, q⟩ := h
  exact pe_ix ix_tup (pe_var hN hv hd hcd) pe_int (fun _ _ => rfl) pins s σ H Q I ⟨_, e, a, xs, (k : Int), v, rfl, rfl, hs, atI_nat hk, q⟩
/-- a def of the text that may be called by its name -/
structure Cal (P : Program) (w : World) (K : PySem.W.Frag) (mg : Str → Option Value) (base : Heap) (CX : CXT) (k : Nat) (x : Str) (ps : List Str) (sp : Sp) : Prop where
  ex : ∃ (f : Addr) (fd : FuncData), mg x = some (.ref f) ∧ PySem.W.keepIn K (.ref f) = true ∧ Binds K fd ps [] ∧ FnOk P w K mg base CX k f fd ps sp
theorem pe_cal {CX : CXT} {k : Nat} {x : Str} {ps : List Str} {sp : Sp} {E : XK} {e : Expr} {es : List Expr} {t : TA} {p pos : Pos} (C : Cal X.prog X.w X.K X.mg X.base CX k x ps sp) (hr : Room k X.A) (hg : Gl X x) (hx : Passes CX X E)
    (ha : PA X (e :: es) t) (hdb : (x == ("__debug__" : Str)) = false := by decide) (he : starEach (e :: es) X.env = (false, eval e X.env) :: starEach es X.env := by rfl) (hpl : (backTo pos (starEach es X.env)).any (·.1) = false := by rfl) :
    PE X (.Call (.Name x p) (e :: es) [] pos) (tCall sp [] E t) := by
  obtain ⟨f, fd, hm, hk, hb, F⟩ := C.ex
  exact pe_call F hr hg hm hk hb .nil hx ha hdb he hpl
theorem Cal.mono {P : Program} {w : World} {K : PySem.W.Frag} {mg : Str → Option Value} {base : Heap} {CX : CXT} {j k : Nat} {x : Str} {ps : List Str} {sp : Sp} (C : Cal P w K mg base CX j x ps sp) (h : j ≤ k) : Cal P w K mg base CX k x ps sp := by
  obtain ⟨f, fd, hm, hk, hb, F⟩ := C.ex
  exact ⟨f, fd, hm, hk, hb, F.mono h⟩
end
theorem Same.tup {K : PySem.W.Frag} {H H' : Hp} {a : Addr} {xs : List V} (e : Same H H') (h : SqT K H a xs) : SqT K H' a xs := by
  rcases h with (h | ⟨o, h⟩) | h
  · exact .inl (.inl (e _ _ h))
  · exact .inl (.inr ⟨o, e _ _ h⟩)
  · exact .inr h
theorem Same.upd {H : Hp} {a : Addr} {o : HO} (h : H a = none) : Same H (upd H a o) := fun b u e => by
  rw [upd_ne (ne_of_none e h)]
  exact e
/-- a new tuple of ints comes back, all else as it was -/
def RetT (H : Hp) (Q : VK) (ns : List Int) : Prop := ∀ p H', Same H H' → H' p = some (.tup (ns.map V.int)) → Q (.ref p) H'
end L2

namespace L2
open PySem PySem.Spec PyProof.Rows PySem.W
/-- an own class of errors, as the top has made it -/
structure ExK (K : Frag) (C : Addr) : Prop where
  ga : findIn K (.ref C) "__getattribute__" = some (some (.builtin "BaseException.__getattribute__"))
  gt : findIn K (.ref C) "__getattr__" = some none
  cl : findIn K (.ref C) "__class__" = some (some (.builtin "object.__class__"))
  sb : subIn K (.ref C) (.type "BaseException") = some true
  so : subIn K (.ref C) (.type "object") = some true
  ci : (clsIn K C).isSome = true
/-- an object of the class at C stands at a -/
structure ExAt (h : Heap) (a : Addr) (o : Obj) (C : Addr) : Prop where
  at_ : h.get? a = some o
  cls : o.cls = .ref C
theorem ExAt.type {M : Model} {h : Heap} {a C : Addr} {o : Obj} (I : ExAt h a o C) : Looks M h (typeOf (.ref a)) (.ref C) := by
  rw [← I.cls]
  exact (Looks.ld I.at_).andThen .now
section
variable {prog : Program} {w : World} {A : Around} {E : Value → Shared → Prop} {h : Heap} {g : Array GenState} {d : Drawn} {t : Nat} {os : OsState} {a C : Addr} {o : Obj} {K : Frag}
theorem exc_class_get {R : Result → Shared → Prop} (X : K.In h) (F : ExK K C) (I : ExAt h a o C) (hq : R (.ok (.ret (.ref C))) ⟨h, g, d, t, os⟩) :
    codeAny (model prog w) A (.call (.builtin "getset_descriptor.__get__") ⟨[.builtin "object.__class__", .ref a, .ref C], []⟩) R ⟨h, g, d, t, os⟩ := by
  have hT5 : (⟨h, g, d, t, os⟩ : Shared).TypeIs (.builtin "object.__class__") "getset_descriptor" := PySem.F.typeOf_object_class
  have hx := I.at_
  have hc := I.cls
  have L1 := looks_subIn (M := model prog w) X F.so
  rw [← PySem.F.owner_object_class] at L1
  refine codeAny_call_builtin PySem.F.slot_gs_get.plain PySem.F.entry_gs_get (PySem.F.slot_gs_get.check _ _ _ _ _ _ _ _ hT5 (PySem.F.args_gs_get _ _ _) ?_)
  repeat (any_goals (first | assumption | (with_reducible refine wpAny_loadPart_at hx ?_; rw [hc]) | with_reducible refine L1.at ?_ | wp_step))
  refine ⟨Code.quiet_builtin _ (by decide +kernel), codeAny_builtin PySem.F.entry_object_class ?_⟩
  repeat (any_goals (first | assumption | (with_reducible refine wpAny_loadPart_at hx ?_; rw [hc]) | wp_step))
theorem exc_class_entry {tk : Tok} {Q : Fin → Shared → Prop} (X : K.In h) (F : ExK K C) (I : ExAt h a o C) (hq : Q (.done (.ret (.ref C))) ⟨h, g, d, t, os⟩) :
    wpAny (model prog w) A (Builtin.«object.__getattribute__» ⟨[.ref a, .str "__class__" tk], []⟩) Q E ⟨h, g, d, t, os⟩ := by
  have L1 := looks_findIn (M := model prog w) X F.cl
  have hT5 : (⟨h, g, d, t, os⟩ : Shared).TypeIs (.builtin "object.__class__") "getset_descriptor" := PySem.F.typeOf_object_class
  have f5 := PySem.F.typeOf_object_class
  have f6 := PySem.F.slot_gs_get.lookup
  have f7 := PySem.F.slot_gs_set.lookup
  have hx := I.at_
  have hc := I.cls
  repeat (any_goals (first | assumption | (with_reducible refine wpAny_loadPart_at hx ?_; rw [hc]) | with_reducible refine L1.at ?_ | wp_step))
  refine exc_class_get X F I ?_
  repeat (any_goals (first | assumption | wp_step))
theorem exc_check_ga {M : Model} {nameV : Value} {Q : Unit → Shared → Prop} (X : K.In h) (F : ExK K C) (I : ExAt h a o C) (hq : Q () ⟨h, g, d, t, os⟩) : wpAny M A (checkBuiltinCall "BaseException.__getattribute__" ⟨[.ref a, nameV], []⟩) Q E ⟨h, g, d, t, os⟩ := by
  have hk : builtinKind "BaseException.__getattribute__" = some .slot := by decide +kernel
  have hsplit : splitId "BaseException.__getattribute__" = some ("BaseException", "__getattribute__") := by decide +kernel
  have L2' := looks_subIn (M := M) X F.sb
  have ha := PySem.F.args_bexc_ga (.ref a) nameV
  have hx := I.at_
  have hc := I.cls
  simp only [checkBuiltinCall, hk, hsplit]
  refine wpAny_bind ?_
  · unfold isInstance
    repeat (first | (with_reducible refine wpAny_loadPart_at hx ?_; rw [hc]) | with_reducible refine L2'.at ?_ | wp_step)
    exact hq
theorem exc_class_call {tk : Tok} {R : Result → Shared → Prop} (X : K.In h) (F : ExK K C) (I : ExAt h a o C) (hq : R (.ok (.ret (.ref C))) ⟨h, g, d, t, os⟩) :
    codeAny (model prog w) A (.call (.builtin "BaseException.__getattribute__") ⟨[.ref a, .str "__class__" tk], []⟩) R ⟨h, g, d, t, os⟩ :=
  codeAny_call_builtin PySem.F.attr_ValueError.ga.plain PySem.F.entry_bexc_ga (exc_check_ga X F I (exc_class_entry X F I hq))
theorem exc_class_by {tk : Tok} {fill expr : Bool} {Q : Value → Shared → Prop} (X : K.In h) (F : ExK K C) (I : ExAt h a o C) (hq : Q (.ref C) ⟨h, g, d, t, os⟩) :
    wpAny (model prog w) A (getAttrBy (.ref a) (.str "__class__" tk) fill expr) Q E ⟨h, g, d, t, os⟩ := by
  have f3 := PySem.F.attr_ValueError.ga.bind (.ref a)
  have hx0 : (expr && onTheHeap (Value.builtin "BaseException.__getattribute__")) = false := by cases expr <;> rfl
  have hx2 : (Value.builtin "BaseException.__getattribute__" == Value.builtin "object.__getattribute__") = false := by decide +kernel
  have hx1 : (onTheHeap (Value.ref C) && Value.builtin "BaseException.__getattribute__" == Value.builtin "object.__getattribute__") = false := by rw [hx2]; rfl
  have L1 := looks_findIn (M := model prog w) X F.ga
  have L2' := looks_findIn (M := model prog w) X F.gt
  have hx := I.at_
  have hc := I.cls
  repeat (any_goals (first | assumption | (with_reducible refine wpAny_loadPart_at hx ?_; rw [hc]) | with_reducible refine L1.at ?_ | with_reducible refine L2'.at ?_ | wp_step))
  refine exc_class_call X F I ?_
  repeat (any_goals (first | assumption | wp_step))
theorem exc_class_attr {Q : Option Value → Shared → Prop} (X : K.In h) (F : ExK K C) (I : ExAt h a o C) (hq : Q (some (.ref C)) ⟨h, g, d, t + 1, os⟩) :
    wpAny (model prog w) A (getAttr? (.ref a) "__class__") Q E ⟨h, g, d, t, os⟩ := by
  unfold getAttr? getAttrBy?
  repeat (any_goals (first | assumption | with_reducible apply exc_class_by X F I | wp_step))
end
theorem kitx_exc {K : Frag} {a C : Addr} {o : Obj} (F : ExK K C) : KitX K (.ref a) (.ref C) (fun h => ExAt h a o C) where
  ty := fun M h X I => I.type
  it := fun M h X I => by
    have hcD := F.ci
    unfold clsIn at hcD
    split at hcD
    · rename_i c' d' cd' sl' ho
      intro A' Q' E' s' k q
      unfold isType loadHead
      exact wpAny_bind (wpAny_loadPart (k _ _ (X _ _ ho)) (wpAny_pure q))
    · cases hcD
  ne := fun h tp dd its n sl X htp => by
    have hcD := F.ci
    refine Bool.eq_false_iff.mpr fun q => ?_
    have e : C = tp := Value.ref.inj (beq_iff_eq.mp q)
    subst e
    unfold clsIn at hcD
    split at hcD
    · rename_i c' d' cd' sl' ho
      have := X _ _ ho
      rw [htp] at this
      cases this
    · cases hcD
  ca := fun {prog w A E Q s} X I hq => by
    obtain ⟨hh, g, d, t, os⟩ := s
    exact exc_class_attr X F I hq
/-- an object of an own class of errors stands at a: what is tracked of it -/
def excO (a C : Addr) : HO := .ext fun h => ∃ o, ExAt h a o C
section
variable {X : Cx}
end
end L2

namespace L2
open PySem PySem.Spec PyProof.Rows PySem.W
/-! ### an error on its way, with its own dict -/
theorem dict_mf (o : Obj) (f : Array Value → Array Value) : (Obj.mapFields f o).dict = o.dict := by
  unfold Obj.mapFields
  split <;> rfl
/-- an error at e with a traceback, its class, its dict -/
def TrD (h base : Heap) (e : Addr) (cls : Value) (dd : Option Addr) (fl : Value) : Prop :=
  ∃ (ob tb : Obj) (us ts : Array Value) (T : Addr), (h.get? e = some ob ∧ ob.data = .fields us ∧ ob.cls = cls ∧ ob.dict = dd) ∧ us[1]? = some (.ref T) ∧ (base.get? T = none ∧ T ≠ e) ∧ h.get? T = some tb ∧ tb.data = .fields ts ∧ ts[3]? = some fl
structure FlyD (base : Heap) (l : List Env) (e : Addr) (cls : Value) (dd : Option Addr) (fl : Value) (h : Heap) : Prop where
  st : base.StaysIn h
  no : base.get? e = none
  fr : h.FunFrames base l
  tr : TrD h base e cls dd fl
theorem FlyD.at {base h : Heap} {l : List Env} {e : Addr} {cls fl : Value} {dd : Option Addr} (x : FlyD base l e cls dd fl h) : ∃ ob us, h.get? e = some ob ∧ ob.cls = cls ∧ ob.dict = dd ∧ ob.data = .fields us := by
  obtain ⟨ob, _, us, _, _, ⟨a, b, c, d⟩, _⟩ := x.tr
  exact ⟨ob, us, a, c, d, b⟩
section
variable {M : Model} {A : Around} {E : Value → Shared → Prop} {s : Shared} {base : Heap} {env : Env} {outer : List Env} {L e : Addr} {Q : Unit → Shared → Prop} {cls : Value} {dd : Option Addr}
/-- a row of the traceback is laid ahead of the others -/
theorem entryD {ob : Obj} {us : Array Value} {head : Value} {had : Bool} (frs : A.frames = some (env :: outer)) (ff : s.heap.FunFrames base (env :: outer)) (fL : env.frame = some L)
    (ge : s.heap.get? e = some ob) (st : base.StaysIn s.heap) (no : base.get? e = none) (du : ob.data = .fields us) (sz : 1 < us.size)
    (k : ∀ h', FlyD base (env :: outer) e ob.cls ob.dict (rawInt L) h' → s.heap.UpToSlots h' → Q () { s with heap := h' }) :
    wpAny M A (do let fo ← frameOf env; let pl ← entryPlaceOf L had; let row ← EntryCells.newEntry head fo .none (rawInt L) .none pl; setField (.ref e) 1 row) Q E s := by
  have eNot : e ∉ (env :: outer).filterMap (·.frame) := fun mem => by
    obtain ⟨_, o', g', nf⟩ := ff.mem mem
    cases ge.symm.trans g'
    exact nf us du
  refine wpAny_bind (wpAny_frameOf_fun frs ff fL fun h1 only => wpAny_bind (wpAny_entryPlaceOf fun pl plOk => ?_))
  unfold EntryCells.newEntry newFields
  refine wpAny_bind (wpAny_newObj_type ?_ (plOk.sizeOk5 _ _ _ _ _))
  have g1 : h1.get? e = some ob := (only.2.1 e eNot).trans ge
  have st1 : base.StaysIn h1 := fun b o q => (only.2.1 b fun mem => by
    rw [(ff.mem mem).1] at q
    cases q).trans (st b o q)
  generalize hrow : ({ cls := .type "traceback", dict := none, data := .fields ([head, .ref L, .none, rawInt L, .none] ++ (if pl.isEmpty then List.replicate 6 Value.none else pl)).toArray } : Obj) = row
  have g2 : (h1.push row).get? e = some ob := Heap.get?_push_of_some row g1
  have Tne : h1.objs.size ≠ e := Nat.ne_of_gt (Heap.lt_size g1)
  have du' := Obj.data_mapFields du (·.setIfInBounds 1 (Value.ref h1.objs.size))
  have gT : (h1.push row).get? h1.objs.size = some row := Heap.get?_push_size h1 (by rw [← hrow]; rfl)
  have old : ∀ b o, b ≠ e → h1.get? b = some o → ((h1.push row).update e (Obj.mapFields (·.setIfInBounds 1 (Value.ref h1.objs.size)))).get? b = some o := fun b o nb q => by
    rw [Heap.get?_update_other _ _ (Ne.symm nb)]
    exact Heap.get?_push_of_some row q
  have nofld : ∀ b o, s.heap.get? b = some o → (∀ vs, o.data ≠ .fields vs) → b ≠ e := fun b o q nf z => by
    subst z
    cases ge.symm.trans q
    exact nf us du
  refine wpAny_setField g2 du sz (k _ ⟨fun b o q => old b o ?_ (st1 b o q), no, ff.of_keeps fun b o q nf => ?_, ?_⟩ fun b o q nf => ?_)
  · rintro rfl
    rw [no] at q
    cases q
  · obtain ⟨sl, z⟩ := only.2.2 b o q
    exact ⟨_, old b _ (nofld b o q nf) z, rfl⟩
  · refine ⟨_, row, _, ([head, .ref L, .none, rawInt L, .none] ++ (if pl.isEmpty then List.replicate 6 Value.none else pl)).toArray, h1.objs.size, ⟨Heap.get?_update_self _ g2 (Obj.isFreed_of_fields du'), du', Obj.cls_mapFields _ _, dict_mf _ _⟩, by simp [sz], ⟨?_, Tne⟩, ?_, by rw [← hrow], by simp⟩
    · cases z : base.get? h1.objs.size with
      | none => rfl
      | some o => exact absurd (Heap.lt_size (st1 _ _ z)) (Nat.lt_irrefl _)
    · rw [Heap.get?_update_other _ _ (Ne.symm Tne)]
      exact gT
  · obtain ⟨sl, z⟩ := only.2.2 b o q
    exact ⟨sl, old b _ (nofld b o q nf) z⟩
/-- the row's mark goes -/
theorem flightD {l : List Env} {fl : Value} (F : FlyD base l e cls dd fl s.heap) (k : ∀ h', FlyD base l e cls dd .none h' → s.heap.UpToSlots h' → Q () { s with heap := h' }) : wpAny M A (setFlight (.ref e) none) Q E s := by
  obtain ⟨st, no, ff, ob, tb, us, ts, T, ⟨ge, du, cc, cd⟩, u1, ⟨nT, Tne⟩, gT, dt, t3⟩ := F
  unfold setFlight
  refine wpAny_bind (wpAny_field ge du u1 ?_)
  rw [if_pos (show (Value.ref T != Value.none) = true from rfl)]
  have z3 : 3 < ts.size := (Array.getElem?_eq_some_iff.mp t3).1
  have dt' := Obj.data_mapFields dt (·.setIfInBounds 3 ((none : Option Addr).elim Value.none fun f => rawInt f))
  have old : ∀ b, b ≠ T → (s.heap.update T (Obj.mapFields (·.setIfInBounds 3 ((none : Option Addr).elim Value.none fun f => rawInt f)))).get? b = s.heap.get? b := fun b nb => Heap.get?_update_other _ _ (Ne.symm nb)
  have nofld : ∀ b o, s.heap.get? b = some o → (∀ vs, o.data ≠ .fields vs) → b ≠ T := fun b o q nf z => by
    subst z
    cases gT.symm.trans q
    exact nf ts dt
  refine wpAny_setField gT dt z3 (k _ ⟨fun b o q => ?_, no, ff.of_keeps fun b o q nf => ⟨o, (old b (nofld b o q nf)).trans q, rfl⟩, ?_⟩ fun b o q nf => ⟨o.slots, (old b (nofld b o q nf)).trans q⟩)
  · refine (old b ?_).trans (st b o q)
    rintro rfl
    rw [nT] at q
    cases q
  · exact ⟨ob, _, us, _, T, ⟨(old e (Ne.symm Tne)).trans ge, du, cc, cd⟩, u1, ⟨nT, Tne⟩, Heap.get?_update_self _ gT (Obj.isFreed_of_fields dt'), dt', by simp [z3]⟩
/-- a new error is noted -/
theorem note1D {ob : Obj} {us : Array Value} (frs : A.frames = some (env :: outer)) (ff : s.heap.FunFrames base (env :: outer)) (fL : env.frame = some L)
    (ge : s.heap.get? e = some ob) (st : base.StaysIn s.heap) (no : base.get? e = none) (du : ob.data = .fields us) (u1 : us[1]? = some .none)
    (k : ∀ h', FlyD base (env :: outer) e ob.cls ob.dict (rawInt L) h' → s.heap.UpToSlots h' → Q () { s with heap := h' }) : wpAny M A (noteFrame (.ref e) env) Q E s := by
  unfold noteFrame
  simp only [fL]
  refine wpAny_bind (wpAny_field ge du u1 ?_)
  rw [if_neg (by decide)]
  exact entryD frs ff fL ge st no du (Array.getElem?_eq_some_iff.mp u1).1 k
/-- one that is on its way is noted in the next frame -/
theorem noteD (frs : A.frames = some (env :: outer)) (fL : env.frame = some L) (F : FlyD base (env :: outer) e cls dd .none s.heap)
    (k : ∀ h', FlyD base (env :: outer) e cls dd (rawInt L) h' → s.heap.UpToSlots h' → Q () { s with heap := h' }) : wpAny M A (noteFrame (.ref e) env) Q E s := by
  obtain ⟨st, no, ff, ob, tb, us, ts, T, ⟨ge, du, cc, cd⟩, u1, ⟨nT, Tne⟩, gT, dt, t3⟩ := F
  subst cc cd
  unfold noteFrame
  simp only [fL]
  refine wpAny_bind (wpAny_field ge du u1 ?_)
  rw [if_pos (show (Value.ref T != Value.none) = true from rfl)]
  refine wpAny_bind (wpAny_field gT dt t3 ?_)
  rw [if_neg (show ¬ ((Value.none == rawInt L) = true) from by simp [rawInt])]
  have z3 : 3 < ts.size := (Array.getElem?_eq_some_iff.mp t3).1
  have old : ∀ b, b ≠ T → (s.heap.update T (Obj.mapFields (·.setIfInBounds 3 Value.none))).get? b = s.heap.get? b := fun b nb => Heap.get?_update_other _ _ (Ne.symm nb)
  have nofld : ∀ b o, s.heap.get? b = some o → (∀ vs, o.data ≠ .fields vs) → b ≠ T := fun b o q nf z => by
    subst z
    cases gT.symm.trans q
    exact nf ts dt
  refine wpAny_bind (wpAny_setField gT dt z3 ?_)
  refine entryD frs (ff.of_keeps fun b o q nf => ⟨o, (old b (nofld b o q nf)).trans q, rfl⟩) fL ((old e (Ne.symm Tne)).trans ge) (fun b o q => ?_) no du (Array.getElem?_eq_some_iff.mp u1).1 fun h' F' up => k h' F' fun b o q nf => up b o ((old b (nofld b o q nf)).trans q) nf
  refine (old b ?_).trans (st b o q)
  rintro rfl
  rw [nT] at q
  cases q
theorem FlyD.tail {h : Heap} {fl : Value} (F : FlyD base (env :: outer) e cls dd fl h) : FlyD base outer e cls dd fl h := ⟨F.st, F.no, F.fr.2.2, F.tr⟩
/-- a new error leaves the frame in which it was raised -/
theorem leave1D {ob : Obj} {us : Array Value} (frs : A.frames = some (env :: outer)) (ff : s.heap.FunFrames base (env :: outer)) (fL : env.frame = some L)
    (ge : s.heap.get? e = some ob) (st : base.StaysIn s.heap) (no : base.get? e = none) (du : ob.data = .fields us) (u1 : us[1]? = some .none)
    (k : ∀ h', FlyD base outer e ob.cls ob.dict .none h' → s.heap.UpToSlots h' → Q () { s with heap := h' }) : wpAny M A (leaving env (.ref e)) Q E s := by
  unfold leaving
  exact wpAny_bind (note1D frs ff fL ge st no du u1 fun h' F' up => flightD F' fun h'' F'' up' => k h'' F''.tail (up.trans up'))
theorem leaveD (frs : A.frames = some (env :: outer)) (fL : env.frame = some L) (F : FlyD base (env :: outer) e cls dd .none s.heap)
    (k : ∀ h', FlyD base outer e cls dd .none h' → s.heap.UpToSlots h' → Q () { s with heap := h' }) : wpAny M A (leaving env (.ref e)) Q E s := by
  unfold leaving
  exact wpAny_bind (noteD frs fL F fun h' F' up => flightD F' fun h'' F'' up' => k h'' F''.tail (up.trans up'))
end
end L2

namespace L2
open PySem PySem.Spec PyProof.Rows PySem.W
/-- an error is under way, with its own dict: what is known behind a call that ended so (s, H: ahead of the call) -/
structure Flx (P : Program) (w : World) (outer : List Env) (H : Hp) (s : Shared) (H' : Hp) (ea : Addr) (cls : Value) (dd : Option Addr) (s' : Shared) : Prop where
  os : s'.os = s.os
  bare : AllBare s'.gens
  un : Un (frs outer) [] H H' s.heap s'.heap
  fl : ∃ B : Heap, HOk P w H' B ∧ FlyD B outer ea cls dd .none s'.heap ∧ (∀ b o, s.heap.get? b = some o → H b = none → b ∉ frs outer → B.get? b = some o) ∧ (∀ b o, s.heap.get? b = some o → b ∉ frs outer → ∃ o', B.get? b = some o')
def CXg (P : Program) (w : World) : CXT := fun outer H s E e s' => ∃ (ea C : Addr) (dd : Option Addr) (H' : Hp), e = .ref ea ∧ Flx P w outer H s H' ea (.ref C) dd s' ∧ E (.ref C) dd H'
/-- a def's body running: it has a frame of its own and nothing that was made ahead of it turns -/
structure OwnF (X : Cx) : Prop where
  stk : X.stack = X.env :: X.outer
  fr : X.env.frame = some X.env.locals
  ex : X.ex = []
section
variable {X : Cx} {pins : List (Addr × Obj)} {σ : St} {H H' : Hp} {s s' : Shared}
theorem notStk (O : OwnF X) (I : Inv X pins σ H s) {b : Addr} {o : Obj} (e : X.s₀.heap.get? b = some o) (hb : b ∉ frs X.outer) : b ∉ frs X.stack := by
  rw [O.stk]
  intro z
  unfold frs at z hb
  rw [List.filterMap_cons, O.fr] at z
  rcases List.mem_cons.mp z with z | z
  · exact absurd (Nat.lt_of_lt_of_le (Heap.lt_size e) I.ok.above) (by rw [z]; exact Nat.lt_irrefl _)
  · exact hb z
theorem inStk (O : OwnF X) {b : Addr} (hb : b ∈ frs X.outer) : b ∈ frs X.stack := by
  rw [O.stk]
  unfold frs at *
  rw [List.filterMap_cons, O.fr]
  exact List.mem_cons_of_mem _ hb
/-- what has stayed, seen from the entry, when the error has left the frame -/
theorem un_of (O : OwnF X) (I : Inv X pins σ H s) {B h' : Heap} (u : Un (frs X.stack) [] H H' s.heap s'.heap) (bk : ∀ b o, X.s₀.heap.get? b = some o → X.H₀ b = none → b ∉ frs X.outer → B.get? b = some o)
    (th : ∀ b o, X.s₀.heap.get? b = some o → b ∉ frs X.outer → ∃ o', B.get? b = some o') (st : B.StaysIn h') (up : s'.heap.UpToSlots h') : Un (frs X.outer) [] X.H₀ H' X.s₀.heap h' := by
  have noex : ∀ b : Addr, b ∉ X.ex := fun b z => by rw [O.ex] at z; cases z
  have slot : ∀ b o, X.s₀.heap.get? b = some o → X.H₀ b = none → b ∈ frs X.outer → ∃ sl, h'.get? b = some { o with slots := sl } := fun b o e n hb => by
    obtain ⟨sl, e1⟩ := I.base.slot b o e n hb (noex b)
    have n1 := I.base.free b o e n (noex b)
    obtain ⟨sl2, e2⟩ := u.slot b _ e1 n1 (inStk O hb) (by simp)
    obtain ⟨_, o', ho', hnf⟩ := I.ok.funs.mem hb
    rw [e] at ho'
    cases ho'
    obtain ⟨sl3, e3⟩ := up b _ e2 (fun vs q => hnf vs q)
    exact ⟨sl3, e3⟩
  refine ⟨fun b o e n hb _ => st b o (bk b o e n hb), fun b o e n hb _ => slot b o e n hb, fun b o e n _ => ?_, fun b o e _ => ?_, fun b xs e => u.tups _ _ (I.base.tups _ _ e), fun b o x e => u.frzs _ _ _ (I.base.frzs _ _ _ e), fun b ps e => ?_⟩
  · obtain ⟨o1, e1⟩ := I.base.there b o e (noex b)
    exact u.free b o1 e1 (I.base.free b o e n (noex b)) (by simp)
  · by_cases hb : b ∈ frs X.outer
    · obtain ⟨sl, q⟩ := slot b o e (I.ok.frf b hb) hb
      exact ⟨_, q⟩
    · obtain ⟨o2, e2⟩ := th b o e hb
      exact ⟨o2, st b o2 e2⟩
  · obtain ⟨m1, e1⟩ := I.base.tbls b ps e
    obtain ⟨m2, e2⟩ := u.tbls _ _ e1
    exact ⟨m1 ++ m2, by rw [e2, Array.append_assoc]⟩
/-- the written part of the heap when the error is raised: all but the frames and the error -/
theorem fly_B (I : Inv X pins σ H s) {ea : Addr} (hea : H ea = none) : HOk X.prog X.w H (hideAll s.heap (ea :: frs X.stack)) := fun a o e => (I.hok a o e).stay (fun b u hb q => hideAll_get _ q fun z => by
  have n : H b = none := by
    rcases List.mem_cons.mp z with z | z
    · rw [z]; exact hea
    · exact I.stkFree b z
  rcases hb with hb | hb
  · rw [← hb] at e; rw [e] at n; cases n
  · rw [hb] at n; cases n) (fun _ h => h) (fun _ _ h => h)
/-- an error that stands there, untracked, leaves the frame -/
theorem fly_raise (O : OwnF X) (I : Inv X pins σ H s) {ea C : Addr} {dd : Option Addr} {ob : Obj} {us : Array Value} {E' : Value → Shared → Prop} {Q : Unit → Shared → Prop} (hea : H ea = none) (n0 : X.s₀.heap.get? ea = none) (ge : s.heap.get? ea = some ob)
    (hc : ob.cls = .ref C) (hdd : ob.dict = dd) (du : ob.data = .fields us) (u1 : us[1]? = some .none)
    (k : ∀ h', Flx X.prog X.w X.outer X.H₀ X.s₀ H ea (.ref C) dd { s with heap := h' } → Q () { s with heap := h' }) : wpAny (model X.prog X.w) X.A (leaving X.env (.ref ea)) Q E' s := by
  have nfr : ea ∉ frs X.stack := fun z => by
    obtain ⟨_, o', ho', hnf⟩ := I.stack.mem z
    rw [ge] at ho'
    cases ho'
    exact hnf us du
  have hin : ∀ env ∈ X.stack, ∀ b, env.frame = some b → b ∈ ea :: frs X.stack := fun env he b hb => List.mem_cons_of_mem _ (List.mem_filterMap.mpr ⟨env, he, hb⟩)
  have hfr : X.A.frames = some (X.env :: X.outer) := by rw [← O.stk]; exact I.ok.frames
  have hl : s.heap.FunFrames (hideAll s.heap (ea :: frs X.stack)) (X.env :: X.outer) := by rw [← O.stk]; exact funFrames_hide I.stack hin
  have nB : (hideAll s.heap (ea :: frs X.stack)).get? ea = none := hideAll_none _ (List.mem_cons_self ..)
  have bk : ∀ b o, X.s₀.heap.get? b = some o → X.H₀ b = none → b ∉ frs X.outer → (hideAll s.heap (ea :: frs X.stack)).get? b = some o := fun b o e n hb => by
    refine hideAll_get _ (I.base.keep b o e n hb (by rw [O.ex]; simp)) fun z => ?_
    rcases List.mem_cons.mp z with z | z
    · rw [z, n0] at e; cases e
    · exact notStk O I e hb z
  have th : ∀ b o, X.s₀.heap.get? b = some o → b ∉ frs X.outer → ∃ o', (hideAll s.heap (ea :: frs X.stack)).get? b = some o' := fun b o e hb => by
    obtain ⟨o1, e1⟩ := I.base.there b o e (by rw [O.ex]; simp)
    refine ⟨o1, hideAll_get _ e1 fun z => ?_⟩
    rcases List.mem_cons.mp z with z | z
    · rw [z, n0] at e; cases e
    · exact notStk O I e hb z
  refine leave1D (base := hideAll s.heap (ea :: frs X.stack)) hfr hl O.fr ge (fun b o q => of_hideAll _ q) nB du u1 fun h' F' up => k h' ⟨I.os, I.bare, ?_, hideAll s.heap (ea :: frs X.stack), fly_B I hea, by rw [← hc, ← hdd]; exact F', bk, th⟩
  exact un_of (s' := s) O I Un.refl bk th F'.st up
theorem fly_on (O : OwnF X) (I : Inv X pins σ H s) {ea C : Addr} {dd : Option Addr} {E' : Value → Shared → Prop} {Q : Unit → Shared → Prop} (F : Flx X.prog X.w X.stack H s H' ea (.ref C) dd s')
    (k : ∀ h', Flx X.prog X.w X.outer X.H₀ X.s₀ H' ea (.ref C) dd { s' with heap := h' } → Q () { s' with heap := h' }) : wpAny (model X.prog X.w) X.A (leaving X.env (.ref ea)) Q E' s' := by
  obtain ⟨B, hok, fl, bk, th⟩ := F.fl
  have hfr : X.A.frames = some (X.env :: X.outer) := by rw [← O.stk]; exact I.ok.frames
  have fl' : FlyD B (X.env :: X.outer) ea (.ref C) dd .none s'.heap := by rw [← O.stk]; exact fl
  have bk0 : ∀ b o, X.s₀.heap.get? b = some o → X.H₀ b = none → b ∉ frs X.outer → B.get? b = some o := fun b o e n hb =>
    bk b o (I.base.keep b o e n hb (by rw [O.ex]; simp)) (I.base.free b o e n (by rw [O.ex]; simp)) (notStk O I e hb)
  have th0 : ∀ b o, X.s₀.heap.get? b = some o → b ∉ frs X.outer → ∃ o', B.get? b = some o' := fun b o e hb => by
    obtain ⟨o1, e1⟩ := I.base.there b o e (by rw [O.ex]; simp)
    exact th b o1 e1 (notStk O I e hb)
  exact leaveD hfr O.fr fl' fun h' F' up => k h' ⟨F.os.trans I.os, F.bare, un_of O I F.un bk0 th0 F'.st up, B, hok, F', bk0, th0⟩
end
/-- the body of a def that may raise -/
abbrev cxF (P : Program) (w : World) (K : Frag) (mg : Str → Option Value) (base : Heap) (N : List Str) (qual : Str) (scope : Scope) (f : Addr) (cd : Value) (A : Around) (outer : List Env) (s : Shared) (H : Hp) (E : XK) : Cx := cxOf (CXg P w) P w K mg base N qual scope f cd A outer s H E
section
variable {P : Program} {w : World} {K : Frag} {mg : Str → Option Value} {base : Heap} {N : List Str} {qual : Str} {scope : Scope} {f : Addr} {cd : Value} {A : Around} {outer : List Env} {s : Shared} {H : Hp} {E : XK}
theorem ownF_of : OwnF (cxF P w K mg base N qual scope f cd A outer s H E) := ⟨rfl, rfl, rfl⟩
/-- an error of a callee goes on -/
theorem pass_f : Passes (CXg P w) (cxF P w K mg base N qual scope f cd A outer s H E) E := by
  intro pins σ Hc sc e s' I h
  obtain ⟨ea, C, dd, H', rfl, F, hE⟩ := h
  exact fly_on (X := cxF P w K mg base N qual scope f cd A outer s H E) ownF_of I F fun h' F' => ⟨ea, C, dd, H', rfl, F', hE⟩
/-- an error that stands there, untracked, leaves -/
def XeOk (X : Cx) (E : XK) : Prop := ∀ (pins : List (Addr × Obj)) (σ : St) (H : Hp) (s : Shared) (ea C : Addr) (ob : Obj) (us : Array Value), Inv X pins σ H s → H ea = none → X.s₀.heap.get? ea = none → s.heap.get? ea = some ob → ob.cls = .ref C → ob.data = .fields us → us[1]? = some .none → E (.ref C) ob.dict H → X.xe (.ref ea) s
theorem xe_f : XeOk (cxF P w K mg base N qual scope f cd A outer s H E) E := by
  intro pins σ Hc sc ea C ob us I hea n0 ge hc du u1 hE
  exact fly_raise (X := cxF P w K mg base N qual scope f cd A outer s H E) ownF_of I hea n0 ge hc rfl du u1 fun h'' F' => ⟨ea, C, ob.dict, Hc, rfl, F', hE⟩
/-- THE RULE for a def that may raise -/
theorem Fun.okF {x : Str} {st : Stmt} {fd : FuncData} {ps : List Str} {k : Nat} {sp : Sp} (F : Fun K x qual st f fd) (S : FnScope N ps (defScope st)) (len : ∀ vs H Q E, sp vs H Q E → vs.length = ps.length)
    (hbody : ∀ (cdv : Value) (A : Around) (outer : List Env) (s : Shared) (H : Hp) (vs : List V) (Q : VK) (E : XK), Room k (A.deeper (envOfC qual (defScope st) s.heap.objs.size f cdv)) → sp vs H Q E →
      ∃ t, PSs (cxF P w K mg base N qual (defScope st) f cdv A outer s H E) (defBody st) t ∧ t { nx := fun _ H' => Q .non H', rt := Q } (start N vs) H) : FnOk P w K mg base (CXg P w) (k + 1) f fd ps sp := by
  obtain ⟨oc, od, kV, doc, pm, an, cdv, ct, osl, rfl, lk, hcd⟩ := F.ex
  exact fn_of lk hcd S len fun A outer s H vs Q E hr hsp => hbody cdv A outer s H vs Q E hr hsp
end
end L2

namespace L2
open PySem PySem.Spec PyProof.Rows PySem.W
/-- the class that an except names -/
structure CtK (K : Frag) (D : Addr) : Prop where
  ty : typeIn K (.ref D) = some (.type "type")
  ci : (clsIn K D).isSome = true
  sb : subIn K (.ref D) (.type "BaseException") = some true
theorem exc_matches {M : Model} {A : Around} {E : Value → Shared → Prop} {h : Heap} {g : Array GenState} {d : Drawn} {t : Nat} {os : OsState} {e C D : Addr} {o : Obj} {K : Frag} {Q : Bool → Shared → Prop} (X : K.In h) (I : ExAt h e o C) (F : CtK K D) (hs : subIn K (.ref C) (.ref D) = some true)
    (hq : Q true ⟨h, g, d, t, os⟩) : wpAny M A (excMatches (.ref e) (.ref D)) Q E ⟨h, g, d, t, os⟩ := by
  have L1 := looks_typeIn (M := M) X F.ty
  have L2' : Looks M h (isType (.ref D)) true := by
    have hcD := F.ci
    unfold clsIn at hcD
    split at hcD
    · rename_i c' d' cd' sl' ho
      intro A' Q' E' s' k q
      unfold isType loadHead
      exact wpAny_bind (wpAny_loadPart (k _ _ (X _ _ ho)) (wpAny_pure q))
    · cases hcD
  have L3 := looks_subIn (M := M) X F.sb
  have L4 := looks_subIn (M := M) X hs
  have L5 := I.type (M := M)
  have f := tc_notTuple
  unfold excMatches isInstance
  repeat (first | with_reducible refine L1.at ?_ | with_reducible refine L2'.at ?_ | with_reducible refine L3.at ?_ | with_reducible refine L4.at ?_ | with_reducible refine L5.at ?_ | wp_step)
  exact hq
/-! ### raise -/
abbrev bmV : List Value := [.type "ValueError", .type "Exception", .type "BaseException", .type "object"]
structure ClsObj (h : Heap) (C : Addr) (bmB : List Value) (newId : String) : Prop where
  ex : ∃ (nm q : Str) (N : Addr) (bs bm : List Value) (hdct : Bool) (sn : List Str) (sub : List Value) (ab : Bool) (col : Option Bool) (dd : Option Addr) (k0 k1 k2 k3 k5 : Option Value) (mN : Str → Option Value),
    h.get? C = some (excClassObj nm q C N bs bm hdct sn sub ab col dd k0 k1 k2 k3 k5 newId) ∧ h.Ns N mN ∧ mN "__init__" = none ∧ OwnTail h bmB bm
theorem objThere {P : Program} {w : World} {H : Hp} {h : Heap} {a : Addr} {o : HO} (x : ObjOk P w H h a o) : ∃ ob, h.get? a = some ob := by
  cases o with
  | lst xs => obtain ⟨_, _, _, _, e⟩ := x; exact ⟨_, e⟩
  | tup xs => obtain ⟨_, _, _, ob, e, _⟩ := x; exact ⟨_, e⟩
  | dK kvs => obtain ⟨_, _, _, _, ob, _, _, e, _⟩ := x; exact ⟨_, e⟩
  | dT kvs => obtain ⟨_, _, _, _, ob, _, _, e, _⟩ := x; exact ⟨_, e⟩
  | set S n => obtain ⟨ob, _, _, _, e, _⟩ := x; exact ⟨_, e⟩
  | ins C dx fs => obtain ⟨_, _, _, e, _⟩ := x; exact ⟨_, e⟩
  | own y => obtain ⟨_, e⟩ := x; exact ⟨_, e⟩
  | xd fs => obtain ⟨_, ⟨_, _, _, e, _⟩, _⟩ := x; exact ⟨_, e⟩
  | rng lo hi => obtain ⟨_, _, _, e⟩ := x; exact ⟨_, e⟩
  | frz ob u => obtain ⟨e, _⟩ := x; exact ⟨_, e⟩
  | tbl ps => exact ⟨_, (show h.get? a = some _ from x)⟩
  | met f y => exact ⟨_, (show h.get? a = some _ from x)⟩
  | ext φ => obtain ⟨_, ⟨_, e⟩, _⟩ := x; exact ⟨_, e⟩
/-- an error of the class at C that was caught, its dict -/
def excD (a C : Addr) (dd : Option Addr) : HO := .ext fun h => ∃ o, ExAt h a o C ∧ o.dict = dd ∧ ∃ us, o.data = .fields us
theorem Inv.absent0 {X : Cx} {pins : List (Addr × Obj)} {σ : St} {H : Hp} {s : Shared} (I : Inv X pins σ H s) {e : Addr} (hex : X.ex = []) (n : s.heap.get? e = none) : X.s₀.heap.get? e = none := by
  cases q : X.s₀.heap.get? e with
  | none => rfl
  | some o =>
    obtain ⟨ob, z⟩ := I.base.there e o q (by rw [hex]; simp)
    rw [n] at z
    cases z
def tRaise (C : Addr) (E : XK) (t : TA) : TS := fun _ σ H => t σ H fun vs H1 => vs.length ≤ sizeLine ∧ E (.ref C) none H1
section
variable {X : Cx}
/-- isinstance of such an object, against an own class or a built-in one -/
theorem call_isiY : CallR X (.builtin "isinstance") (fun xs H Q => ∃ a C dd c v b, xs = [.ref a, v] ∧ H a = some (excD a C dd) ∧ ExK X.K C ∧ RelV v c ∧ kitOne X.K (.ref C) c = some b ∧ Q (.bl b) H) := by
  intro pins s σ H xs us Q I r h
  obtain ⟨a, C, dd, c, v, b, rfl, hH, F, rc, hk, q⟩ := h
  obtain ⟨u, w', rfl, rx, ry⟩ := vals2 r
  cases rx
  obtain ⟨⟨o, hi, _⟩, _⟩ := I.hok a _ hH
  have e : w' = c := by
    have := ry
    cases v with
    | ref z => cases ry; cases rc; rfl
    | ty z => cases ry; cases rc; rfl
    | non => cases ry; cases rc; rfl
    | bl z => cases ry; cases rc; rfl
    | int z => obtain ⟨_, rfl⟩ := rc; simp [kitOne, kitCls] at hk
    | str z => obtain ⟨_, rfl⟩ := rc; simp [kitOne, kitCls] at hk
    | byt z => obtain ⟨_, rfl⟩ := rc; simp [kitOne, kitCls] at hk
    | flt z => obtain ⟨_, rfl⟩ := rc; simp [kitOne, kitCls] at hk
  subst e
  exact kia_one (kitx_exc F) I.kIn hi hk (by intro z; cases z) fun tk => ⟨.bl b, H, I.tok _, rfl, q⟩
end
/-- within an except suite, from which nothing is raised -/
abbrev Cx.within (X : Cx) (v : Value) : Cx := { X with A := X.A.mark (some v), calm := false, xe := fun _ _ => False }
/-- within a try: what is wanted of an error, and pins that every state bears -/
abbrev Cx.trying (X : Cx) (pins : List (Addr × Obj)) (E : Value → Shared → Prop) : Cx := { X with pn := X.pn ++ pins, xe := E }
section
variable {X : Cx} {pins : List (Addr × Obj)} {σ : St} {H H' : Hp} {s s' : Shared}
theorem Inv.within (I : Inv X pins σ H s) (v : Value) : Inv (X.within v) pins σ H s :=
  ⟨⟨I.ok.mod, I.ok.kind, I.ok.glob, I.ok.blt, I.ok.above, I.ok.inj, I.ok.has, I.ok.cab, (fun h => (by cases h)), I.ok.frames, I.ok.stk, I.ok.exf, I.ok.bs, I.ok.bsz, I.ok.noex, I.ok.exfs, I.ok.funs, I.ok.frf⟩, I.os, I.bare, I.base, I.loc, I.cell, I.free, I.freeC, I.pin, I.hok, I.len⟩
theorem Inv.without {v : Value} (ok : X.Ok) (I : Inv (X.within v) pins σ H s) : Inv X pins σ H s := ⟨ok, I.os, I.bare, I.base, I.loc, I.cell, I.free, I.freeC, I.pin, I.hok, I.len⟩
theorem Inv.trying (I : Inv X pins σ H s) (E : Value → Shared → Prop) : Inv (X.trying pins E) [] σ H s :=
  ⟨⟨I.ok.mod, I.ok.kind, I.ok.glob, I.ok.blt, I.ok.above, I.ok.inj, I.ok.has, I.ok.cab, I.ok.hd, I.ok.frames, I.ok.stk, I.ok.exf, I.ok.bs, I.ok.bsz, I.ok.noex, I.ok.exfs, I.ok.funs, I.ok.frf⟩, I.os, I.bare, I.base, I.loc, I.cell, I.free, I.freeC, fun p hp => I.pin p (by rwa [List.append_nil] at hp), I.hok, I.len⟩
theorem Inv.tried {E : Value → Shared → Prop} {pl : List (Addr × Obj)} (I : Inv (X.trying pins E) pl σ H s) : Inv X pins σ H s :=
  ⟨⟨I.ok.mod, I.ok.kind, I.ok.glob, I.ok.blt, I.ok.above, I.ok.inj, I.ok.has, I.ok.cab, I.ok.hd, I.ok.frames, I.ok.stk, I.ok.exf, I.ok.bs, I.ok.bsz, I.ok.noex, I.ok.exfs, I.ok.funs, I.ok.frf⟩, I.os, I.bare, I.base, I.loc, I.cell, I.free, I.freeC, fun p hp => I.pin p (List.mem_append_left _ hp), I.hok, I.len⟩
theorem SP.tried {E : Value → Shared → Prop} {D : Ends} {f : Flow} (h : SP (X.trying pins E) [] D f s) : SP X pins D f s := by
  cases f with
  | next => obtain ⟨σ', H', I, q⟩ := h; exact ⟨σ', H', I.tried, q⟩
  | brk => obtain ⟨σ', H', I, q⟩ := h; exact ⟨σ', H', I.tried, q⟩
  | cont => obtain ⟨σ', H', I, q⟩ := h; exact ⟨σ', H', I.tried, q⟩
  | ret u => obtain ⟨v, σ', H', I, r, q⟩ := h; exact ⟨v, σ', H', I.tried, r, q⟩
/-- a thing that stands there is tracked from now on -/
theorem Inv.track (I : Inv X pins σ H s) {a : Addr} {u : HO} (hn : H a = none) (h0 : X.s₀.heap.get? a = none) (hL : a ≠ X.env.locals) (hc : ∀ x c, X.env.cells.lookup x = some c → c ≠ a) (hp : ∀ p ∈ X.pn ++ pins, p.1 ≠ a)
    (ok : ObjOk X.prog X.w (upd H a u) s.heap a u) : Inv X pins σ (upd H a u) s := by
  have old : ∀ b o, X.s₀.heap.get? b = some o → b ≠ a := fun b o e z => by rw [z, h0] at e; cases e
  have trk : ∀ b o, H b = some o → b ≠ a := fun b o e => ne_of_none e hn
  refine ⟨I.ok, I.os, I.bare, ⟨I.base.keep, I.base.slot, fun b o e n hx => ?_, I.base.there, fun b xs e => ?_, fun b o x e => ?_, fun b ps e => ?_⟩, I.loc, I.cell, ?_, fun x c e => ?_, fun p q => ?_, fun b o e => ?_, I.len⟩
  · rw [upd_ne (old b o e)]
    exact I.base.free b o e n hx
  · have z := I.base.tups b xs e
    rw [upd_ne (trk _ _ z)]
    exact z
  · have z := I.base.frzs b o x e
    rw [upd_ne (trk _ _ z)]
    exact z
  · obtain ⟨m, z⟩ := I.base.tbls b ps e
    exact ⟨m, by rw [upd_ne (trk _ _ z)]; exact z⟩
  · rw [upd_ne (Ne.symm hL)]
    exact I.free
  · rw [upd_ne (hc x c e)]
    exact I.freeC x c e
  · obtain ⟨a1, a2, a3⟩ := I.pin p q
    exact ⟨a1, by rw [upd_ne (hp p q)]; exact a2, a3⟩
  · by_cases hb : b = a
    · subst hb
      rw [upd_same] at e
      cases e
      exact ok
    · rw [upd_ne hb] at e
      exact (I.hok b o e).stay (fun _ _ _ q => q) (fun c q => by rw [upd_ne (trk _ _ q)]; exact q) (fun c xs q => by rw [upd_ne (trk _ _ q)]; exact q)
/-- what has stayed when the error is looked at in this frame -/
theorem un_here (I : Inv X pins σ H s) {B h' : Heap} (u : Un (frs X.stack) [] H H' s.heap s'.heap) (bk : ∀ b o, s.heap.get? b = some o → H b = none → b ∉ frs X.stack → B.get? b = some o)
    (th : ∀ b o, s.heap.get? b = some o → b ∉ frs X.stack → ∃ o', B.get? b = some o') (st : B.StaysIn h') (up : s'.heap.UpToSlots h') : Un (frs X.stack) [] H H' s.heap h' := by
  have slot : ∀ b o, s.heap.get? b = some o → H b = none → b ∈ frs X.stack → ∃ sl, h'.get? b = some { o with slots := sl } := fun b o e n hb => by
    obtain ⟨sl, e1⟩ := u.slot b o e n hb (by simp)
    obtain ⟨_, o', ho', hnf⟩ := I.stack.mem hb
    rw [e] at ho'
    cases ho'
    obtain ⟨sl3, e3⟩ := up b _ e1 (fun vs q => hnf vs q)
    exact ⟨sl3, e3⟩
  refine ⟨fun b o e n hb _ => st b o (bk b o e n hb), fun b o e n hb _ => slot b o e n hb, u.free, fun b o e _ => ?_, u.tups, u.frzs, u.tbls⟩
  by_cases hb : b ∈ frs X.stack
  · obtain ⟨sl, q⟩ := slot b o e (I.stkFree b hb) hb
    exact ⟨_, q⟩
  · obtain ⟨o2, e2⟩ := th b o e hb
    exact ⟨o2, st b o2 e2⟩
/-- the name of an except goes -/
theorem name_gone {M : Model} {A : Around} {E : Value → Shared → Prop} {i : Nat} {n : Str} {pos : Pos} {Q : Unit → Shared → Prop} (I : Inv X pins σ H s) (hN : X.N.Nodup) (hi : X.N[i]? = some n) (hk : X.env.scope.names.lookup n = some .local)
    (h : ∀ s', Inv X pins (σ.set i none) H s' → Q () s') : wpAny M A (do bindName X.env n .none; unbindBehindTheSuite X.env n pos) Q E s := by
  obtain ⟨m, hn, hl⟩ := id I.loc
  have hcls : (X.env.scope.kind == .class || (X.env.scope.kind == .module && X.env.locals != X.env.globals)) = false := by rw [I.ok.kind]; rfl
  have hiσ : i < σ.length := by rw [I.len]; exact (List.getElem?_eq_some_iff.mp hi).1
  refine wpAny_nameGoes_keeps hk hn hcls fun h' v hn' hs => ?_
  have ne : ∀ b o, X.s₀.heap.get? b = some o → b ≠ X.env.locals := fun b o e => Nat.ne_of_lt (Nat.lt_of_lt_of_le (Heap.lt_size e) I.ok.above)
  refine h _ ⟨I.ok, I.os, I.bare, ⟨fun b o e n hb hx => (hs.2 b (ne b o e)).trans (I.base.keep b o e n hb hx), fun b o e n hb hx => ?_, I.base.free, fun b o e hx => ?_, I.base.tups, I.base.frzs, I.base.tbls⟩, ⟨_, hn', fun j y v' e1 e2 e3 => ?_⟩, fun y c e => ?_, I.free, I.freeC, fun p hp => ?_, fun b ob e => ?_, by rw [List.length_set]; exact I.len⟩
  · obtain ⟨sl, e1⟩ := I.base.slot b o e n hb hx
    exact ⟨sl, (hs.2 b (ne b o e)).trans e1⟩
  · obtain ⟨o', e1⟩ := I.base.there b o e hx
    exact ⟨o', (hs.2 b (ne b o e)).trans e1⟩
  · by_cases hj : j = i
    · subst hj
      rw [List.getElem?_set_self hiσ] at e2
      cases e2
    · rw [List.getElem?_set_ne (Ne.symm hj)] at e2
      obtain ⟨u', r', q⟩ := hl j y v' e1 e2 e3
      refine ⟨u', r', ?_⟩
      rcases q with ⟨k, e⟩ | ⟨k, c, e, z⟩
      · refine .inl ⟨k, ?_⟩
        have ny : y ≠ n := fun e => hj (nodup_ix hN e1 (e ▸ hi))
        simp [ny, e]
      · exact .inr ⟨k, c, e, z.sameBut hs (I.cne y c e)⟩
  · obtain ⟨v', q⟩ := I.cell y c e
    exact ⟨v', q.sameBut hs (I.cne y c e)⟩
  · obtain ⟨a1, a2, a3, a4⟩ := I.pin p hp
    exact ⟨(hs.2 p.1 a3).trans a1, a2, a3, a4⟩
  · refine (I.hok b ob e).stay (fun c w' hc q => (hs.2 c ?_).trans q) (fun _ q => q) fun _ _ q => q
    intro z
    rw [z] at hc
    rcases hc with hc | hc
    · rw [← hc, I.free] at e
      cases e
    · rw [I.free] at hc
      cases hc
/-- an error of the body is caught under the name n and kept under the name y (slot j) -/
def tTry (K : Frag) (N j : Nat) (Dc : Addr) (tb : XK → TS) : TS := fun D σ H => tb (fun cls dd H' => ∃ C, cls = .ref C ∧ ExK K C ∧ subIn K (.ref C) (.ref Dc) = some true ∧ ∀ a, H' a = none → D.nx ((List.replicate N none).set j (some (.ref a))) (upd H' a (excD a C dd))) D σ H
end
end L2

namespace L2
open PySem PySem.Spec PyProof.Rows PySem.W
/-! ### an own class of errors with an __init__ of its own -/
/-- the class at C stands under the one at P, which stands under ValueError; its __init__ is the def at f -/
def xiIn (K : Frag) (C P f : Addr) : Bool := match K.lookup C with
  | some ⟨.type "type", _, .cls cd, sl⟩ => (match cd.mro, sl.toList with
    | .ref C' :: .ref P' :: bm, [_, _, _, _, some (.builtin n), _] => C' == C && P' == P && n == "ValueError.__new__" && !cd.hasDel && cd.hasDict && tailIn K bmV (.ref P' :: bm) && nsOkIn K cd.ns && nsIn K cd.ns "__init__" == some (some (.ref f)) && bm == bmV
    | _, _ => false)
  | _ => false
structure ClsI (h : Heap) (C P f : Addr) : Prop where
  ex : ∃ (nm q : Str) (N : Addr) (bs : List Value) (sn : List Str) (sub : List Value) (ab : Bool) (col : Option Bool) (dd : Option Addr) (k0 k1 k2 k3 k5 : Option Value) (mN : Str → Option Value),
    h.get? C = some (excClassObj nm q C N bs (.ref P :: bmV) true sn sub ab col dd k0 k1 k2 k3 k5 "ValueError.__new__") ∧ h.Ns N mN ∧ mN "__init__" = some (.ref f) ∧ OwnTail h bmV (.ref P :: bmV)
theorem nsMap_some_of_in {K : Frag} {h : Heap} {N : Addr} {x : Str} {v : Value} (X : K.In h) (hok : nsOkIn K N = true) (e : nsIn K N x = some (some v)) : h.nsMap N x = some v := by
  have G : h.Ns N (h.nsMap N) := .of_isNs (isNs_of_in X hok)
  obtain ⟨o, es, ep, ho, hd, _, hf⟩ := G
  unfold nsIn at e
  split at e
  · rename_i c d es' n' sl q
    have z := X _ _ q
    rw [ho] at z
    cases z
    cases hd
    split at e
    · rename_i en he
      cases e
      rw [← hf]
      unfold nsFind findBy
      rw [← Array.find?_toList, he]
      rfl
    · split at e <;> cases e
  · cases e
theorem clsI_of {K : Frag} {h : Heap} {C P f : Addr} (X : K.In h) (q : xiIn K C P f = true) : ClsI h C P f := by
  unfold xiIn at q
  split at q
  case h_2 => cases q
  case h_1 dd cd sl ho =>
    split at q
    case h_2 => cases q
    case h_1 C' P' bm k0 k1 k2 k3 n k5 hm hs =>
      simp only [Bool.and_eq_true, beq_iff_eq, Bool.not_eq_true'] at q
      obtain ⟨⟨⟨⟨⟨⟨⟨⟨e1, e0⟩, e2⟩, hdel⟩, hdi⟩, ht⟩, hok⟩, hni⟩, e3⟩ := q
      cases e1
      cases e0
      cases e2
      cases e3
      obtain ⟨nm, bs, mro, ns, qn, hd, sn, sub, ab, col, del⟩ := cd
      obtain ⟨sl⟩ := sl
      dsimp only at hm hdel hok hni hs hdi
      subst hm hdel hs hdi
      exact ⟨nm, qn, ns, bs, sn, sub, ab, col, dd, k0, k1, k2, k3, k5, _, X _ _ ho, .of_isNs (isNs_of_in X hok), nsMap_some_of_in X hok hni, tail_of_in X ht⟩
section
variable {prog : Program} {w : World} {A : Around} {E : Value → Shared → Prop} {h : Heap} {g : Array GenState} {d : Drawn} {t : Nat} {os : OsState} {K : Frag} {C P f : Addr}
/-- what stands there when __init__ is called -/
abbrev excNew (h : Heap) (C : Addr) (rest : List Value) : Heap := (h.push { cls := .type "tuple", data := .seq rest.toArray }).push { cls := .ref C, data := .fields #[.ref h.objs.size, .none, .none, .none, .bool false, .none] }
theorem exi_type_call {rest : List Value} {Q : Fin → Shared → Prop} (X : K.In h) (I : ClsI h C P f) (hf : typeIn K (.ref f) = some (.type "function")) (hrest : rest.length ≤ sizeLine)
    (hq : codeAny (model prog w) A (.call (.ref f) ⟨.ref (h.objs.size + 1) :: rest, []⟩) (fun r s' => match r with
      | .ok (.ret v) => v = .none ∧ Q (.done (.ret (.ref (h.objs.size + 1)))) s'
      | .ok _ => False
      | .error e => E e s') ⟨excNew h C rest, g, d, t, os⟩) :
    wpAny (model prog w) A (Builtin.«type.__call__» ⟨.ref C :: rest, []⟩) Q E ⟨h, g, d, t, os⟩ := by
  obtain ⟨nm, q, N, bs, sn, sub, ab, col, dd, k0, k1, k2, k3, k5, mN, hC, hn, hni, T⟩ := I.ex
  have F := PySem.F.excBase_ValueError
  repeat (first | with_reducible refine wpAny_loadPart_at hC ?_ | with_reducible refine wpAny_madeBy_exc hC ?_ | wp_step)
  refine codeAny_call_builtin_code (Code.quiet_builtin _ F.quiet) (wpAny_check_new_subU F F.hasB T hC ?_)
  refine codeAny_exc_new_subU F F.hasB F T hC ?_ hrest
  show wpAny _ _ _ _ _ _
  have keep : ∀ b o, h.get? b = some o → (excNew h C rest).get? b = some o := fun b o e => Heap.get?_push_of_some _ (Heap.get?_push_of_some _ e)
  have hC1 := keep _ _ hC
  have hn1 : (excNew h C rest).Ns N mN := hn.keeps keep
  have hget : (excNew h C rest).get? (h.objs.size + 1) = some { cls := .ref C, data := .fields #[.ref h.objs.size, .none, .none, .none, .bool false, .none] } := by unfold excNew; heap_get
  have hcC : (Value.ref C :: Value.ref P :: bmV).contains (.ref C) = true := by simp
  have T1 := T.keeps keep
  have B1 := bind_fn (M := model prog w) (X.keeps keep) (.ref (h.objs.size + 1)) hf
  unfold isInstance
  repeat (first | with_reducible refine wpAny_loadPart_at hget ?_ | (with_reducible refine wpAny_isSubtype_exc hC1 ?_; rw [hcC]) | wp_step)
  show wpAny _ _ (typeLookup (.ref C) _) _ _ _
  refine wpAny_typeLookup_tail hC1 hn1 T1 F.mroIs F.init.lookup ?_
  rw [hni]
  refine wpAny_holding (wpAny_bind (B1.at ?_))
  refine wpAny_bind (wpAny_call (codeAny_mono hq fun r s' z => ?_))
  cases r with
  | error e => exact z
  | ok fl =>
    cases fl with
    | ret v =>
      obtain ⟨rfl, z⟩ := z
      exact wpAny_pure (wpAny_pure z)
    | next => exact z.elim
    | brk => exact z.elim
    | cont => exact z.elim
theorem exi_call {rest : List Value} {R : Result → Shared → Prop} (X : K.In h) (I : ClsI h C P f) (hf : typeIn K (.ref f) = some (.type "function")) (hrest : rest.length ≤ sizeLine)
    (hq : codeAny (model prog w) (A.under (.builtin "type.__call__" ⟨.ref C :: rest, []⟩)) (.call (.ref f) ⟨.ref (h.objs.size + 1) :: rest, []⟩) (InitBack (h.objs.size + 1) R) ⟨excNew h C rest, g, d, t, os⟩) :
    codeAny (model prog w) A (.call (.ref C) ⟨rest, []⟩) R ⟨h, g, d, t, os⟩ := by
  obtain ⟨nm, q, N, bs, sn, sub, ab, col, dd, k0, k1, k2, k3, k5, mN, hC, hn, hni, T⟩ := id I.ex
  have f1 := tc_lookup
  have f2 := tc_bind (.ref C)
  have hT : (⟨h, g, d, t, os⟩ : Shared).TypeIs (.ref C) "type" := ⟨_, hC, rfl⟩
  refine codeAny_of_tree ?_
  show wpAny _ _ (callAny (.ref C) _) _ _ _
  repeat (any_goals (first | assumption | with_reducible refine wpAny_loadPart_at hC ?_ | wp_step))
  refine ⟨rfl, ?_⟩
  refine codeAny_call_builtin_at (Code.quiet_builtin _ (by decide +kernel)) entry_typeCall (wpAny_check_type_call_sub hC (exi_type_call X I hf hrest (codeAny_mono hq fun r s' z => ?_)))
  cases r with
  | error e => exact z
  | ok fl =>
    cases fl with
    | ret v => exact z
    | next => exact z.elim
    | brk => exact z.elim
    | cont => exact z.elim
end
end L2

namespace L2
open PySem PySem.Spec PyProof.Rows PySem.W
/-- an error that is being made, or was made and is not raised yet: its class, its dict -/
def exN (a C : Addr) (dd : Option Addr) : HO := .ext fun h => ∃ o t, (h.get? a = some o ∧ o.cls = .ref C ∧ o.dict = dd) ∧ o.data = .fields #[t, .none, .none, .none, .bool false, .none]
/-- what is no more tracked -/
def rem (H : Hp) (a : Addr) : Hp := fun b => if b = a then none else H b
theorem rem_ne {H : Hp} {a b : Addr} (h : b ≠ a) : rem H a b = H b := by unfold rem; rw [if_neg h]
theorem rem_same {H : Hp} {a : Addr} : rem H a a = none := by unfold rem; rw [if_pos rfl]
section
variable {X : Cx} {pins : List (Addr × Obj)} {σ : St} {H : Hp} {s : Shared}
theorem Inv.drop (I : Inv X pins σ H s) {a : Addr} {φ : Heap → Prop} (ha : H a = some (.ext φ)) : Inv X pins σ (rem H a) s := by
  have nn : ∀ b, H b = none → rem H a b = none := fun b h => by
    by_cases z : b = a
    · rw [z]; exact rem_same
    · rw [rem_ne z]; exact h
  have oo : ∀ b o, H b = some o → (∀ ψ, o ≠ .ext ψ) → rem H a b = some o := fun b o h n => by
    by_cases z : b = a
    · subst z; rw [h] at ha; cases ha; exact absurd rfl (n φ)
    · rw [rem_ne z]; exact h
  refine ⟨I.ok, I.os, I.bare, ⟨I.base.keep, I.base.slot, fun b o e n hx => nn b (I.base.free b o e n hx), I.base.there, fun b xs e => oo b _ (I.base.tups b xs e) (fun _ z => by cases z), fun b o x e => oo b _ (I.base.frzs b o x e) (fun _ z => by cases z), fun b ps e => ?_⟩, I.loc, I.cell, nn _ I.free, fun x c e => nn _ (I.freeC x c e), fun p hp => ?_, fun b o e => ?_, I.len⟩
  · obtain ⟨m, z⟩ := I.base.tbls b ps e
    exact ⟨m, oo b _ z (fun _ q => by cases q)⟩
  · obtain ⟨a1, a2, a3⟩ := I.pin p hp
    exact ⟨a1, nn _ a2, a3⟩
  · by_cases z : b = a
    · rw [z, rem_same] at e; cases e
    · rw [rem_ne z] at e
      exact (I.hok b o e).stay (fun _ _ _ q => q) (fun c q => oo c _ q (fun _ z => by cases z)) (fun c xs q => oo c _ q (fun _ z => by cases z))
theorem Inv.exnew (I : Inv X pins σ H s) (C : Addr) (us : List Value) : Inv X pins σ (upd H (s.heap.objs.size + 1) (exN (s.heap.objs.size + 1) C none)) { s with heap := excNew s.heap C us } := by
  refine I.laid (a := s.heap.objs.size + 1) (t' := s.toks) (fun b u e => Heap.get?_push_of_some _ (Heap.get?_push_of_some _ e)) (Nat.le_succ _) ?_
  have hget : (excNew s.heap C us).get? (s.heap.objs.size + 1) = some { cls := .ref C, data := .fields #[.ref s.heap.objs.size, .none, .none, .none, .bool false, .none] } := by unfold excNew; heap_get
  exact ⟨⟨_, _, ⟨hget, rfl, rfl⟩, rfl⟩, ⟨_, hget⟩, fun h1 h2 ⟨o, t, ⟨e1, e2, e3⟩, e4⟩ k => ⟨o, t, ⟨k o e1, e2, e3⟩, e4⟩⟩
theorem raise_made {M : Model} {A : Around} {E : Value → Shared → Prop} {env : Env} {x : Sem Value} {C : Addr} {K : Frag} {s : Shared} {Q : Flow → Shared → Prop} (hh : A.handled = none) (F : ExK K C) (hk : ∃ oC, K.lookup C = some oC ∧ oC.cls = .type "type")
    (h : wpAny M A x (fun v s₁ => K.In s₁.heap ∧ ∃ e ob us, v = .ref e ∧ s₁.heap.get? e = some ob ∧ ob.cls = .ref C ∧ ob.data = .fields us ∧ us[1]? = some .none ∧ E (.ref e) s₁) E s) : wpAny M A (raiseStmt env (some x) none) Q E s := by
  unfold raiseStmt
  refine wpAny_bind (wpAny_mono h (fun v s₁ h₁ => ?_) fun _ _ x => x)
  obtain ⟨KX, e, ob, us, rfl, he, hc, hd, h1, hE⟩ := h₁
  obtain ⟨hp, g, d, tk, os⟩ := s₁
  have L1 := looks_subIn (M := M) KX F.sb
  obtain ⟨⟨cC, dC, tC, sC⟩, hkC, hkc⟩ := hk
  have hC := KX _ _ hkC
  dsimp only at hkc
  subst hkc
  obtain ⟨oc, od, odt, osl⟩ := ob
  dsimp only at hc hd
  subst hc hd
  have h1' := h1
  repeat (first | with_reducible refine wpAny_loadPart_at he ?_ | with_reducible refine wpAny_loadPart_at hC ?_ | with_reducible refine L1.at ?_ | wp_step)
  rw [h1]
  refine wpAny_pure ?_
  rw [if_neg (by decide)]
  exact wpAny_pure (wpAny_raiseNew_none hh hE)
end
theorem xiIn_obj {K : Frag} {C P f : Addr} (q : xiIn K C P f = true) : ∃ oC, K.lookup C = some oC ∧ oC.cls = .type "type" := by
  unfold xiIn at q
  split at q
  · rename_i ho
    exact ⟨_, ho, rfl⟩
  · cases q
/-- an own class of errors with an __init__, as the top made it -/
structure ExI (K : Frag) (C P f : Addr) : Prop where
  xi : xiIn K C P f = true
  fn : typeIn K (.ref f) = some (.type "function")
  kp : keepIn K (.ref C) = true
  k : ExK K C
/-- raise C(..): the error is made, __init__ runs, it leaves -/
def tRaiseI (C : Addr) (sp : Sp) (E : XK) (t : TA) : TS := fun _ σ H => t σ H fun vs H1 => vs.length ≤ sizeLine ∧ ∀ e, H1 e = none →
  sp (.ref e :: vs) (upd H1 e (exN e C none)) (fun v H2 => v = .non ∧ ∃ dd, H2 e = some (exN e C dd) ∧ E (.ref C) dd (rem H2 e)) E0
section
variable {X : Cx}
theorem ps_raiseI {x : Str} {C P f : Addr} {fd : FuncData} {ps : List Str} {sp : Sp} {k : Nat} {e₀ : Expr} {es : List Expr} {t : TA} {E : XK} {np cpos pos : Pos} (hex : X.ex = []) (hX : XeOk X E) (hc : X.calm = true) (hr : Room (k + 1) X.A) (hg : Gl X x) (hm : X.mg x = some (.ref C)) (hei : ExI X.K C P f)
    (F : FnOk X.prog X.w X.K X.mg X.base CX0 k f fd ps sp) (hb : Binds X.K fd ps []) (ha : PA X (e₀ :: es) t)
    (hdb : (x == ("__debug__" : Str)) = false := by decide) (he : starEach (e₀ :: es) X.env = (false, eval e₀ X.env) :: starEach es X.env := by rfl) (hpl : (backTo cpos (starEach es X.env)).any (·.1) = false := by rfl) :
    PS X (.Raise (some (.Call (.Name x np) (e₀ :: es) [] cpos)) none pos) (tRaiseI C sp E t) := by
  intro pins s σ H D I h
  rw [arm_exec_Raise]
  refine wpAny_bind (wpAny_standAt (raise_made (C := C) (K := X.K) (I.ok.hd hc) hei.k (xiIn_obj hei.xi) ?_))
  refine wpAny_bind (thn (Q := fun v s₁ => X.K.In s₁.heap ∧ ∃ e ob us, v = Value.ref e ∧ s₁.heap.get? e = some ob ∧ ob.cls = .ref C ∧ ob.data = .fields us ∧ us[1]? = some .none ∧ X.xe (.ref e) s₁) ?_ fun v s1 q => wpAny_bind (wpAny_standAt (wpAny_pure q)))
  refine wpAny_Call_Name_kw (ld_glob I hg hm ?_ hdb)
  refine PySem.W.callWith_K (h₀ := X.base) I.ok.mod.kin hei.kp (thn (ha cpos pins s σ H _ I h) fun us s1 ⟨vs, H1, I1, r, hl, q⟩ => ⟨I1.kIn, ?_⟩) he hpl
  have hn : H1 (s1.heap.objs.size + 1) = none := I1.hok.fresh (Nat.le_succ _)
  have hq := q (s1.heap.objs.size + 1) hn
  have I2 := I1.exnew C us
  have r2 : Vals (V.ref (s1.heap.objs.size + 1) :: vs) (Value.ref (s1.heap.objs.size + 1) :: us) := .cons rfl r
  have hlen : (Value.ref (s1.heap.objs.size + 1) :: us ++ []).length = ps.length := by
    have e := r2.length
    rw [F.len _ _ _ _ hq] at e
    rw [List.append_nil]
    exact e.symm
  have n0 : X.s₀.heap.get? (s1.heap.objs.size + 1) = none := I1.absent0 hex (Heap.get?_none_of_le (Nat.le_succ _))
  obtain ⟨hh, g, d, tk, os⟩ := s1
  refine wpAny_call (exi_call (f := f) (P := P) I1.kIn (clsI_of I1.kIn hei.xi) hei.fn (by show us.length ≤ sizeLine; rw [← r.length]; exact hl) (codeAny_mono (F.run _ X.stack _ _ ⟨Value.ref (hh.objs.size + 1) :: us, []⟩ (Value.ref (hh.objs.size + 1) :: us) _ _ E0 (hr.make C us [])
    (I2.env0.make C us []) (by have z := hb _ (Value.ref (hh.objs.size + 1) :: us) I2.kIn hlen; rw [List.append_nil] at z; exact z) r2 hq) fun r s' hq' => ?_))
  cases r with
  | error e => exact hq'.elim
  | ok fl =>
    cases fl with
    | ret u =>
      obtain ⟨v, H', I3, rv, ev, dd, hd, hE⟩ := I2.after hq'
      subst ev
      refine ⟨rv, ?_⟩
      obtain ⟨⟨o, t', ⟨o1, o2, o3⟩, o4⟩, _⟩ := I3.hok _ _ hd
      exact ⟨I3.kIn, _, o, _, rfl, o1, o2, o4, rfl, hX pins σ _ s' _ C o _ (I3.drop hd) rem_same n0 o1 o2 o4 rfl (by rw [o3]; exact hE)⟩
    | next => exact hq'.elim
    | brk => exact hq'.elim
    | cont => exact hq'.elim
end
end L2

namespace L2
open PySem PySem.Spec PyProof.Rows PySem.W PySem.Builtin PySem.Builtin.ObjectAttr
theorem refuse_exc (self : Value) : refuseLoop self "__setattr__" bmV = pure () := by
  kernel_rfl
section
variable {prog : Program} {w : World} {A : Around} {E : Value → Shared → Prop} {h : Heap} {g : Array GenState} {d : Drawn} {t : Nat} {os : OsState} {K : Frag} {C P f a : Addr} {o : Obj} {name : Str} {v : Value}
/-- e.name = v, up to the store itself -/
theorem exi_set_open {Q : Unit → Shared → Prop} (X : K.In h) (I : ClsI h C P f) (F : ExK K C) (sa : findIn K (.ref C) "__setattr__" = some (some (.builtin "object.__setattr__"))) (nn : findIn K (.ref C) name = some none) (O : ExAt h a o C)
    (hq : ∀ A' tk, wpAny (model prog w) A' (storeInOwnDict (.ref a) (.ref C) (.str name tk) name v false) (fun fin s' => ∃ u, fin = .done (.ret u) ∧ Q () s') (fun _ _ => False) ⟨h, g, d, t + 1, os⟩) :
    wpAny (model prog w) A (setAttr (.ref a) name v) Q E ⟨h, g, d, t, os⟩ := by
  obtain ⟨nm, q, N, bs, sn, sub, ab, col, dd, k0, k1, k2, k3, k5, mN, hC, hn, hni, T⟩ := I.ex
  have SF := PySem.F.store_object
  have L1 := O.type (M := model prog w)
  have L2' := looks_findIn (M := model prog w) X sa
  have L3 := looks_findIn (M := model prog w) X nn
  have L4 : Looks (model prog w) h (isInstance (.ref a) (.type "object")) true := L1.andThen (looks_subIn X F.so)
  refine wpAny_bind (wpAny_mkText (wpAny_bind (wpAny_bind (wpAny_bind (L1 _ _ _ _ (fun _ _ e => e) (L2' _ _ _ _ (fun _ _ e => e) (wpAny_holding ?_)))))))
  rw [SF.slot.bind]
  refine wpAny_bind (wpAny_pure (wpAny_bind (wpAny_call ?_)))
  refine codeAny_call_builtin SF.slot.plain SF.entry (@check_slot (model prog w) _ _ _ "object.__setattr__" "object" "__setattr__" (.ref a) [.str name t, v] [] _ SF.kind SF.split L4 (SF.args (.ref a) (.str name t) v) ?_)
  show wpAny _ _ (Builtin.«object.__setattr__» ⟨[.ref a, .str name t, v], []⟩) _ _ _
  rw [osa_eq, refuse_eq]
  refine wpAny_bind (wpAny_bind (L1.here (wpAny_bind (wpAny_mroOf_exc hC ?_))))
  rw [refuseLoop_ref, refuseLoop_ref, refuse_exc]
  refine wpAny_pure (wpAny_bind (L1.here (wpAny_bind (L3.here (wpAny_bind (wpAny_pure ?_))))))
  refine wpAny_mono (hq _ t) (fun fin s' z => ?_) fun _ _ z => z.elim
  obtain ⟨u, rfl, z⟩ := z
  exact wpAny_pure (wpAny_pure z)
theorem idict_new {Q : Option Addr → Shared → Prop} (I : ClsI h C P f) (O : ExAt h a o C) (hd : o.dict = none) {us : Array Value} (hf : o.data = .fields us)
    (hq : Q (some h.objs.size) ⟨(h.push { cls := .type "dict", data := .dict #[] }).update a fun ob => { ob with dict := some h.objs.size }, g, d, t, os⟩) : wpAny (model prog w) A (instanceDict a true) Q E ⟨h, g, d, t, os⟩ := by
  obtain ⟨nm, q, N, bs, sn, sub, ab, col, dd, k0, k1, k2, k3, k5, mN, hC, hn, hni, T⟩ := I.ex
  have hx := O.at_
  obtain ⟨oc, od, odt, osl⟩ := o
  have hc := O.cls
  dsimp only at hd hf hc
  subst hd hf hc
  have hx1 : (h.push { cls := .type "dict", data := .dict #[] }).get? a = some ⟨.ref C, none, .fields us, osl⟩ := Heap.get?_push_of_some _ hx
  unfold instanceDict
  repeat (first | with_reducible refine wpAny_loadPart_at hx ?_ | with_reducible refine wpAny_loadPart_at hC ?_ | wp_step)
  exact hq
theorem idict_old {Q : Option Addr → Shared → Prop} {dx : Addr} (I : ClsI h C P f) (O : ExAt h a o C) (hd : o.dict = some dx) (hq : Q (some dx) ⟨h, g, d, t, os⟩) (b : Bool) : wpAny (model prog w) A (instanceDict a b) Q E ⟨h, g, d, t, os⟩ := by
  obtain ⟨nm, q, N, bs, sn, sub, ab, col, dd, k0, k1, k2, k3, k5, mN, hC, hn, hni, T⟩ := I.ex
  have hx := O.at_
  obtain ⟨oc, od, odt, osl⟩ := o
  have hc := O.cls
  dsimp only at hd hc
  subst hd hc
  unfold instanceDict
  repeat (first | with_reducible refine wpAny_loadPart_at hx ?_ | with_reducible refine wpAny_loadPart_at hC ?_ | wp_step)
  exact hq
/-- the store into a dict -/
theorem store_in {Q : Fin → Shared → Prop} {dx : Addr} {mA : Str → Option Value} {ns : List Str} {tk : Tok} (hn : h.Ns1 dx mA) (hw : Within mA ns) (hz : ns.length ≤ 100)
    (hq : ∀ h' tk', h'.Ns1 dx (fun y => if y = name then some v else mA y) → (∀ b ob, b ≠ dx → h.get? b = some ob → h'.get? b = some ob) → Q (.done (.ret .none)) ⟨h', g, d, tk', os⟩) :
    wpAny (model prog w) A (storeInDict dx (.str name tk) name v) Q E ⟨h, g, d, t, os⟩ := by
  unfold storeInDict newKeyGuard
  refine wpAny_bind (wpAny_pure (wpAny_bind (wpAny_nsSet1 hn fun h' hn' hs => ?_)))
  obtain ⟨oD, esD, epD, hoD, hdD, hcD⟩ := hn'.count (Within.cons name v hw)
  refine wpAny_bind (wpAny_lookBehind hoD (by rw [hdD]; exact pastItsLine_dict (Nat.le_trans hcD (by rw [List.length_cons, sizeLine_eq]; omega))) ?_)
  exact wpAny_pure (hq h' _ hn' fun b ob nb q => (hs.2 b nb).trans q)
/-- the first attribute: its dict is made -/
theorem exi_set_new {Q : Unit → Shared → Prop} (X : K.In h) (I : ClsI h C P f) (F : ExK K C) (sa : findIn K (.ref C) "__setattr__" = some (some (.builtin "object.__setattr__"))) (nn : findIn K (.ref C) name = some none) (O : ExAt h a o C) (hd : o.dict = none) {us : Array Value} (hf : o.data = .fields us)
    (hq : ∀ h' tk, h'.Ns1 h.objs.size (fun y => if y = name then some v else none) → h'.get? a = some { o with dict := some h.objs.size } → (∀ b ob, b ≠ a → h.get? b = some ob → h'.get? b = some ob) → Q () ⟨h', g, d, tk, os⟩) :
    wpAny (model prog w) A (setAttr (.ref a) name v) Q E ⟨h, g, d, t, os⟩ := by
  refine exi_set_open X I F sa nn O fun A' tk => ?_
  have hx := O.at_
  have ne : a ≠ h.objs.size := Nat.ne_of_lt (Heap.lt_size hx)
  have hx1 : (h.push { cls := .type "dict", data := .dict #[] }).get? a = some o := Heap.get?_push_of_some _ hx
  unfold storeInOwnDict
  refine wpAny_bind (wpAny_pure ?_)
  show wpAny _ _ (ownDictForStores (.ref a) >>= _) _ _ _
  refine wpAny_bind (idict_new I O hd hf ?_)
  have hgd : ((h.push { cls := .type "dict", data := .dict #[] }).update a fun ob => { ob with dict := some h.objs.size }).get? h.objs.size = some { cls := .type "dict", data := .dict #[] } :=
    (Heap.get?_update_other _ _ ne).trans (Heap.get?_push_at rfl rfl)
  have hga : ((h.push { cls := .type "dict", data := .dict #[] }).update a fun ob => { ob with dict := some h.objs.size }).get? a = some { o with dict := some h.objs.size } := by
    refine Heap.get?_update_self _ hx1 ?_
    obtain ⟨oc, od, odt, osl⟩ := o
    dsimp only at hf
    subst hf
    rfl
  have hnd : ((h.push { cls := .type "dict", data := .dict #[] }).update a fun ob => { ob with dict := some h.objs.size }).Ns h.objs.size (fun _ => none) := ⟨_, #[], _, hgd, rfl, fun e he => absurd he (by simp), fun _ => rfl⟩
  refine store_in (Heap.Ns1.of_empty hnd) (ns := []) Within.nil (by decide) fun h' tk' hn' hk => ⟨_, rfl, hq h' tk' hn' (hk a _ ne hga) fun b ob nb q => hk b ob (Nat.ne_of_lt (Heap.lt_size q)) ?_⟩
  exact (Heap.get?_update_other _ _ (Ne.symm nb)).trans (Heap.get?_push_of_some _ q)
/-! ### e.name -/
theorem exi_get_entry {tk : Tok} {dx : Addr} {mA : Str → Option Value} {Q : Fin → Shared → Prop} (X : K.In h) (I : ClsI h C P f) (nn : findIn K (.ref C) name = some none) (O : ExAt h a o C) (hd : o.dict = some dx) {us : Array Value} (hf : o.data = .fields us) (hn : h.Ns dx mA) (hv : mA name = some v)
    (hq : Q (.done (.ret v)) ⟨h, g, d, t, os⟩) : wpAny (model prog w) A (Builtin.«object.__getattribute__» ⟨[.ref a, .str name tk], []⟩) Q E ⟨h, g, d, t, os⟩ := by
  have L1 := O.type (M := model prog w)
  have L3 := looks_findIn (M := model prog w) X nn
  have hx := O.at_
  have hc := O.cls
  refine wpAny_bind (wpAny_pure (wpAny_bind (wpAny_pure ?_)))
  refine wpAny_bind (L1.here (wpAny_bind ?_))
  unfold find
  refine wpAny_bind (L3.here ?_)
  refine wpAny_bind (wpAny_pure ?_)
  refine wpAny_bind (wpAny_pure ?_)
  unfold ownThenClass inOwnDict ObjectAttr.ownDict
  refine wpAny_bind (wpAny_bind ?_)
  refine wpAny_bind (wpAny_loadPart_at hx ?_)
  rw [hf]
  refine idict_old I O hd ?_ false
  refine wpAny_nsGet hn ?_
  rw [hv]
  exact wpAny_bind (wpAny_rule (wpAny_pure (wpAny_pure hq)))
theorem exi_get_call {tk : Tok} {dx : Addr} {mA : Str → Option Value} {R : Result → Shared → Prop} (X : K.In h) (I : ClsI h C P f) (F : ExK K C) (nn : findIn K (.ref C) name = some none) (O : ExAt h a o C) (hd : o.dict = some dx) {us : Array Value} (hf : o.data = .fields us) (hn : h.Ns dx mA) (hv : mA name = some v)
    (hq : R (.ok (.ret v)) ⟨h, g, d, t, os⟩) : codeAny (model prog w) A (.call (.builtin "BaseException.__getattribute__") ⟨[.ref a, .str name tk], []⟩) R ⟨h, g, d, t, os⟩ :=
  codeAny_call_builtin PySem.F.attr_ValueError.ga.plain PySem.F.entry_bexc_ga (exc_check_ga X F O (exi_get_entry X I nn O hd hf hn hv hq))
theorem exi_get_by {tk : Tok} {fill expr : Bool} {dx : Addr} {mA : Str → Option Value} {Q : Value → Shared → Prop} (X : K.In h) (I : ClsI h C P f) (F : ExK K C) (nn : findIn K (.ref C) name = some none) (O : ExAt h a o C) (hd : o.dict = some dx) {us : Array Value} (hf : o.data = .fields us) (hn : h.Ns dx mA) (hv : mA name = some v) (hh : handedIn v = true)
    (hq : Q v ⟨h, g, d, t, os⟩) : wpAny (model prog w) A (getAttrBy (.ref a) (.str name tk) fill expr) Q E ⟨h, g, d, t, os⟩ := by
  have f3 := PySem.F.attr_ValueError.ga.bind (.ref a)
  have hx0 : (expr && onTheHeap (Value.builtin "BaseException.__getattribute__")) = false := by cases expr <;> rfl
  have hx2 : (Value.builtin "BaseException.__getattribute__" == Value.builtin "object.__getattribute__") = false := by decide +kernel
  have hx1 : (onTheHeap (Value.ref C) && Value.builtin "BaseException.__getattribute__" == Value.builtin "object.__getattribute__") = false := by rw [hx2]; rfl
  have L1 := looks_findIn (M := model prog w) X F.ga
  have L2' := looks_findIn (M := model prog w) X F.gt
  have hx := O.at_
  have hc := O.cls
  repeat (any_goals (first | assumption | (with_reducible refine wpAny_loadPart_at hx ?_; rw [hc]) | with_reducible refine L1.at ?_ | with_reducible refine L2'.at ?_ | wp_step))
  refine exi_get_call X I F nn O hd hf hn hv ?_
  repeat (any_goals (first | assumption | exact handed_on hh hq | wp_step))
end
/-! ### in the layer -/
/-- what the top made of a class of errors with fields: no attribute of the class has a field's name -/
structure ExF (K : Frag) (C P f : Addr) (x : Str) : Prop where
  i : ExI K C P f
  sa : findIn K (.ref C) "__setattr__" = some (some (.builtin "object.__setattr__"))
  nn : findIn K (.ref C) x = some none
/-- the dict of an error -/
def xdE (a : Addr) (fs : List (Str × V)) : HO := .ext fun h => ∃ mA, h.Ns1 a mA ∧ (∀ g, RelO (fs.lookup g) (mA g)) ∧ Within mA (fs.map (·.1))
theorem xdE_ok {P : Program} {w : World} {H : Hp} {h : Heap} {a : Addr} {fs : List (Str × V)} {mA : Str → Option Value} (n : h.Ns1 a mA) (r : ∀ g, RelO (fs.lookup g) (mA g)) (wi : Within mA (fs.map (·.1))) : ObjOk P w H h a (xdE a fs) := by
  obtain ⟨o, es, ep, e, q⟩ := id n
  exact ⟨⟨mA, n, r, wi⟩, ⟨o, e⟩, fun h1 h2 ⟨m, n1, r1, w1⟩ k => ⟨m, n1.at k, r1, w1⟩⟩
theorem exN_ok {P : Program} {w : World} {H : Hp} {h : Heap} {a C : Addr} {dd : Option Addr} {o : Obj} {t : Value} (e : h.get? a = some o) (c : o.cls = .ref C) (dq : o.dict = dd) (fd : o.data = .fields #[t, .none, .none, .none, .bool false, .none]) : ObjOk P w H h a (exN a C dd) :=
  ⟨⟨o, t, ⟨e, c, dq⟩, fd⟩, ⟨o, e⟩, fun h1 h2 ⟨o, t, ⟨e1, e2, e3⟩, e4⟩ k => ⟨o, t, ⟨k o e1, e2, e3⟩, e4⟩⟩
section
variable {X : Cx} {pins : List (Addr × Obj)} {σ : St} {H : Hp} {s : Shared} {o e value : Expr} {x : Str} {pos pos' : Pos} {ta tv : TE} {C P f : Addr}
/-- a thing that was not there ahead is tracked -/
theorem Inv.trackNew {s' : Shared} {H' : Hp} (I : Inv X pins σ H s) (I' : Inv X pins σ H' s') {a : Addr} {u : HO} (hex : X.ex = []) (n : s.heap.get? a = none) (hn : H' a = none) (ok : ObjOk X.prog X.w (upd H' a u) s'.heap a u) : Inv X pins σ (upd H' a u) s' := by
  refine I'.track hn (I.absent0 hex n) (fun z => ?_) (fun y c q z => ?_) (fun p q z => ?_) ok
  · obtain ⟨m, ⟨oL, _, _, hoL, _⟩, _⟩ := I.loc
    rw [← z, n] at hoL
    cases hoL
  · obtain ⟨v, o, ho, _⟩ := I.cell y c q
    rw [z, n] at ho
    cases ho
  · have := (I.pin p q).1
    rw [z, n] at this
    cases this
/-- e.x = value, the first one -/
def sExN (K : Frag) (C P f : Addr) (ta tv : TE) (x : Str) : TS := fun D σ H => tv σ H fun y H1 => ta σ H1 fun z H2 => ∃ a, z = .ref a ∧ H2 a = some (exN a C none) ∧ ExF K C P f x ∧
  ∀ dx, H2 dx = none → dx ≠ a → D.nx σ (upd (upd H2 a (exN a C (some dx))) dx (xdE dx [(x, y)]))
theorem ps_exN (hex : X.ex = []) (ha : PE X o ta) (hv : PE X value tv) (hs : swapsWith value (some (.Attribute o x pos')) pos.line X.env = pure false) : PS X (.Assign [.Attribute o x pos'] value pos) (sExN X.K C P f ta tv x) := by
  intro pins s σ H D I h
  refine plainObj_wpAny_Assign_Attribute (thn (hv pins s σ H _ I h) fun u s1 ⟨y, H1, I1, ry, q⟩ => thn (ha pins s1 σ H1 _ I1 q) fun ov s2 ⟨z, H2, I2, rx, a, ez, ea, F, q2⟩ => ?_) hs
  subst ez
  obtain rfl : ov = Value.ref a := rx
  obtain ⟨⟨ob, t', ⟨o1, o2, o3⟩, o4⟩, _⟩ := I2.hok _ _ ea
  have nz : s2.heap.get? s2.heap.objs.size = none := Heap.get?_none_of_le (Nat.le_refl _)
  have Hz : H2 s2.heap.objs.size = none := I2.hok.fresh (Nat.le_refl _)
  have ne : s2.heap.objs.size ≠ a := Nat.ne_of_gt (Heap.lt_size o1)
  obtain ⟨hh, g, d, tk, os⟩ := s2
  refine exi_set_new I2.kIn (clsI_of I2.kIn F.i.xi) F.i.k F.sa F.nn ⟨o1, o2⟩ o3 o4 fun h' tk' hn' ga ks => ?_
  have J1 : Inv X pins σ (upd H2 a (exN a C (some hh.objs.size))) ⟨h', g, d, tk', os⟩ := by
    refine I2.write (x := a) (e := a) (t' := tk') (by rw [ea]; exact True.intro) (.inl rfl) ks ⟨_, ga⟩ ?_
    exact exN_ok ga o2 rfl o4
  have J2 := I2.trackNew J1 (a := hh.objs.size) (u := xdE hh.objs.size [(x, y)]) hex nz (by rw [upd_ne ne]; exact Hz) (xdE_ok hn' (fun g => ?_) (fun g hg => ?_))
  · exact ⟨σ, _, J2, q2 _ Hz ne⟩
  · by_cases z : g = x
    · subst z
      simp only [List.lookup, beq_self_eq_true, if_true]
      exact ry
    · have : ([(x, y)] : List (Str × V)).lookup g = none := by
        simp only [List.lookup]
        rw [beq_eq_false_iff_ne.mpr z]
      rw [this, if_neg z]
      exact True.intro
  · by_cases z : g = x
    · rw [z]; simp
    · rw [if_neg z] at hg
      exact absurd rfl hg
end
end L2

namespace L2
open PySem PySem.Spec PyProof.Rows PySem.W PySem.Builtin PySem.Builtin.ObjectAttr
section
variable {prog : Program} {w : World} {A : Around} {E : Value → Shared → Prop} {h : Heap} {g : Array GenState} {d : Drawn} {t : Nat} {os : OsState} {K : Frag} {C P f a : Addr} {o : Obj} {v : Value}
/-- the base's __init__ of an error that is being made: its args are laid -/
theorem binit_call {Q : Value → Shared → Prop} {rest : List Value} {us : Array Value} {a0 : Value} (I : ClsI h C P f) (O : ExAt h a o C) (hf : o.data = .fields us) (h0 : us[0]? = some a0) (hz : rest.length ≤ sizeLine)
    (hq : Q .none ⟨(h.push { cls := .type "tuple", data := .seq rest.toArray }).update a (Obj.mapFields (·.setIfInBounds 0 (.ref h.objs.size))), g, d, t, os⟩) :
    wpAny (model prog w) A (call (.builtin "ValueError.__init__") (.ref a :: rest)) Q E ⟨h, g, d, t, os⟩ := by
  obtain ⟨nm, q, N, bs, sn, sub, ab, col, dd, k0, k1, k2, k3, k5, mN, hC, hn, hni, T⟩ := I.ex
  have F := PySem.F.excBase_ValueError
  have z0 : 0 < us.size := (Array.getElem?_eq_some_iff.mp h0).1
  have g1 := Heap.get?_push_of_some (h := h) { cls := .type "tuple", data := .seq rest.toArray } O.at_
  refine wpAny_call (codeAny_call_builtin F.init.plain F.initEntry (wpAny_check_init_subU F T hC O.at_ O.cls ?_))
  unfold Builtin.«BaseException.__init__»
  dsimp only
  rw [if_neg (by simp)]
  unfold newTuple Builtin.BaseException.bexcPut
  refine wpAny_bind (wpAny_newObj_type ?_ (by show rest.toArray.size ≤ sizeLine; rw [List.size_toArray]; exact hz))
  refine wpAny_bind (wpAny_bind (wpAny_field g1 hf h0 (wpAny_bind (wpAny_setField g1 hf z0 ?_))))
  split
  · refine wpAny_letGo ?_
    exact wpAny_pure hq
  · exact wpAny_pure (wpAny_pure hq)
end
/-- the class whose __init__ is called by its name -/
structure BaseI (K : Frag) (P : Addr) : Prop where
  rd : readsIn K P (.type "type") = true
  fc : findCls K (.ref P) (.type "type") "__init__" = some (.val (.builtin "ValueError.__init__"))
  ga : specialIn K (.ref P) "__getattribute__" = some (some (.builtin "type.__getattribute__"))
section
variable {X : Cx} {C P f : Addr} {x : Str} {p apos pos : Pos} {e₁ e₂ : Expr} {t : TA}
/-- Base.__init__(self, text) -/
def tBInit (K : Frag) (P : Addr) (t : TA) : TE := fun σ H Q => t σ H fun vs H1 => ∃ a C dd f txt, vs = [.ref a, .str txt] ∧ H1 a = some (exN a C dd) ∧ ExI K C P f ∧ Q .non H1
theorem upd_id {H : Hp} {a : Addr} {o : HO} (h : H a = some o) : upd H a o = H := by
  funext b
  by_cases z : b = a
  · rw [z, upd_same, h]
  · rw [upd_ne z]
theorem pe_binit {pl : Sem Bool} (hg : Gl X x) (hm : X.mg x = some (.ref P)) (B : BaseI X.K P) (ha : PA X [e₁, e₂] t) (hdb : (x == ("__debug__" : Str)) = false := by decide)
    (hst : starEach [e₁, e₂] X.env = (false, eval e₁ X.env) :: starEach [e₂] X.env := by rfl) (hpl : (backTo pos (starEach [e₂] X.env)).any (·.1) = false := by rfl)
    (ht : eval (.Call (.Attribute (.Name x p) "__init__" apos) [e₁, e₂] [] pos) X.env = (do
      let ov ← eval (.Name x p) X.env
      standAt apos.atName
      let (f, first) ← holding [ov] (getMethod ov "__init__" pl)
      callWith pos f first (backTo pos (starEach [e₁, e₂] X.env)) (backToKw pos (keywordEach [] X.env))) := by rfl) :
    PE X (.Call (.Attribute (.Name x p) "__init__" apos) [e₁, e₂] [] pos) (tBInit X.K P t) := by
  intro pins s σ H Q I h
  refine PySem.W.methodCall_KW (pl := pl) (ld_glob I hg hm ?_ hdb) ht
  refine method_cls I.kIn B.ga (cls_value I.kIn B.rd B.fc rfl ?_)
  have I0 := I.tok (s.toks + 1)
  have hA := ha pos pins _ σ H _ I0 h
  rw [hst] at hA ⊢
  refine Calls.callWith_builtin (by show (false || (backTo pos (starEach [e₂] X.env)).any (·.1)) = false; rw [hpl] <;> rfl) (Calls.evalArgs_plain (thn hA fun us s2 ⟨vs, H2, I2, r2, a, C, dd, f, txt, e1, ea, F, q2⟩ => ?_))
  subst e1
  obtain ⟨u1, u2, rfl, ra, rt⟩ := r2.two
  obtain rfl : u1 = Value.ref a := ra
  obtain ⟨⟨ob, t', ⟨o1, o2, o3⟩, o4⟩, _⟩ := I2.hok _ _ ea
  obtain ⟨hh, g, d, tk, os⟩ := s2
  refine binit_call (clsI_of I2.kIn F.xi) ⟨o1, o2⟩ o4 rfl (by show 1 ≤ sizeLine; decide) ?_
  have g1 := Heap.get?_push_of_some (h := hh) { cls := .type "tuple", data := .seq [u2].toArray } o1
  have d1 := Obj.data_mapFields o4 (·.setIfInBounds 0 (Value.ref hh.objs.size))
  have g2 := Heap.get?_update_self (Obj.mapFields (·.setIfInBounds 0 (Value.ref hh.objs.size))) g1 (Obj.isFreed_of_fields d1)
  have J : Inv X pins σ (upd H2 a (exN a C dd)) ⟨(hh.push { cls := .type "tuple", data := .seq [u2].toArray }).update a (Obj.mapFields (·.setIfInBounds 0 (.ref hh.objs.size))), g, d, tk, os⟩ := by
    refine I2.write (x := a) (e := a) (t' := tk) (by rw [ea]; exact True.intro) (.inl rfl) (fun b u nb q => ?_) ⟨_, g2⟩ ?_
    · exact (Heap.get?_update_other _ _ (Ne.symm nb)).trans (Heap.get?_push_of_some _ q)
    · exact exN_ok g2 ((Obj.cls_mapFields _ _).trans o2) ((dict_mf _ _).trans o3) d1
  rw [upd_id ea] at J
  exact ⟨.non, H2, J, rfl, q2⟩
/-! ### e.x of an error that was caught -/
def tExF (K : Frag) (ta : TE) (x : Str) : TE := fun σ H Q => ta σ H fun z H1 => ∃ a C P f dx fs v, z = .ref a ∧ H1 a = some (excD a C (some dx)) ∧ H1 dx = some (xdE dx fs) ∧ ExF K C P f x ∧ fs.lookup x = some v ∧ Q v H1
theorem pe_exf {e : Expr} {ta : TE} (he : PE X e ta) (hb : attributeBase e x X.env (eval e X.env) = eval e X.env) : PE X (.Attribute e x pos) (tExF X.K ta x) := by
  intro pins s σ H Q I h
  refine attr_of hb (thn (he pins s σ H _ I h) fun u s1 ⟨z, H1, I1, rx, a, C, P, f, dx, fs, v, ez, ea, ed, F, l, q⟩ => ?_)
  subst ez
  obtain rfl : u = Value.ref a := rx
  obtain ⟨⟨ob, O, od, us, ou⟩, _⟩ := I1.hok _ _ ea
  obtain ⟨⟨mA, n1, r1, _⟩, _⟩ := I1.hok _ _ ed
  obtain ⟨w', hw, rw'⟩ := RelO.some_of (by rw [← l]; exact r1 x)
  unfold getAttr
  refine wpAny_bind (wpAny_mkText ?_)
  have I2 := I1.tok (s1.toks + 1)
  obtain ⟨hh, g, d, tk, os⟩ := s1
  exact exi_get_by I1.kIn (clsI_of I1.kIn F.i.xi) F.i.k F.nn O od ou n1.ns hw (handed_of rw') ⟨v, H1, I2, rw', q⟩
end
end L2

namespace L2
open PySem PySem.Spec PyProof.Rows PySem.W
/-! ### f-strings -/
/-- what stands in an f-string for a value -/
def FmtV : V → Str → Prop
  | .int i, x => i.natAbs.log2 < 1920 ∧ x = (toString i : String)
  | .str y, x => y.length ≤ sizeLine ∧ x = y
  | .non, x => x = "None"
  | _, _ => False
def tFmt (ta : TE) : TE := fun σ H Q => ta σ H fun v H1 => ∃ x, FmtV v x ∧ Q (.str x) H1
abbrev TJ := Str → St → Hp → (Str → Hp → Prop) → Prop
/-- the parts of an f-string, behind what was joined so far -/
def PJ (X : Cx) (es : List Expr) (t : TJ) : Prop :=
  ∀ (acc : Str) (pins : List (Addr × Obj)) (s : Shared) (σ : St) (H : Hp) (Q : Str → Hp → Prop), Inv X pins σ H s → t acc σ H Q → wpAny (model X.prog X.w) X.A (joinParts acc (evalEach es X.env)) (EP X pins σ fun v H' => ∃ x, v = .str x ∧ Q x H') X.xe s
def jNil : TJ := fun acc _ H Q => acc.length ≤ sizeLine ∧ Q acc H
def jCons (te : TE) (tr : TJ) : TJ := fun acc σ H Q => te σ H fun v H1 => ∃ x, v = .str x ∧ (acc ++ x).length ≤ sizeLine ∧ tr (acc ++ x) σ H1 Q
def tJoin (t : TJ) : TE := fun σ H Q => t Str.empty σ H fun x H' => Q (.str x) H'
section
variable {X : Cx} {value e e' : Expr} {es : List Expr} {ta te : TE} {tr t : TJ} {pos : Pos}
theorem pe_fmt (ha : PE X value ta) : PE X (.FormattedValue value (-1) none pos) (tFmt ta) := by
  intro pins s σ H Q I h
  refine FormattedValue_plain (thn (ha pins s σ H _ I h) fun u s1 ⟨v, H1, I1, rv, x, fx, q⟩ => ?_)
  cases v with
  | int i =>
    obtain ⟨t, rfl⟩ := rv
    obtain ⟨hl, rfl⟩ := fx
    exact formatField_int_small hl ⟨.str _, H1, I1.tok _, ⟨_, rfl⟩, q⟩
  | str y =>
    obtain ⟨t, rfl⟩ := rv
    obtain ⟨hl, rfl⟩ := fx
    exact formatField_str (fun t' tk => ⟨.str x, H1, I1.tok _, ⟨_, rfl⟩, q⟩) hl
  | non =>
    cases rv
    cases fx
    exact wpAny_formatField_none ⟨.str _, H1, I1.tok _, ⟨_, rfl⟩, q⟩
  | bl _ => exact fx.elim
  | byt _ => exact fx.elim
  | flt _ => exact fx.elim
  | ref _ => exact fx.elim
  | ty _ => exact fx.elim
theorem pj_nil : PJ X [] jNil := fun acc pins s σ H Q I h => joinParts_nil ⟨.str acc, H, I.tok _, ⟨_, rfl⟩, acc, rfl, h.2⟩ h.1
theorem pj_cons (he : PE X e te) (hr : PJ X es tr) : PJ X (e :: es) (jCons te tr) := by
  intro acc pins s σ H Q I h
  show wpAny _ _ (joinParts acc (eval e X.env :: evalEach es X.env)) _ _ _
  refine joinParts_cons (thn (he pins s σ H _ I h) fun u s1 ⟨v, H1, I1, rv, x, ev, hz, q⟩ => ?_)
  subst ev
  obtain ⟨t, rfl⟩ := rv
  exact ⟨hz, hr _ pins s1 σ H1 Q I1 q⟩
theorem pe_join (h : PJ X (e :: e' :: es) t) : PE X (.JoinedStr (e :: e' :: es) pos) (tJoin t) := by
  intro pins s σ H Q I hw
  refine JoinedStr_many (thn (h _ pins s σ H _ I hw) fun u s1 ⟨v, H1, I1, rv, x, ev, q⟩ => ?_)
  subst ev
  exact ⟨.str x, H1, I1, rv, q⟩
end
end L2

namespace L2
open PySem PySem.Spec PyProof.Rows PySem.W
/-! ### over a text, sign by sign -/
def Its (x : Str) : It := ⟨fun i _ => ∃ c, x.cps[i]? = some c, fun i H v H' => H' = H ∧ ∃ c, x.cps[i]? = some c ∧ v = .str ⟨#[c]⟩, fun i _ => x.cps[i]? = none⟩
theorem turn_str {P : Program} {w : World} {K : Frag} {tg : Expr} (x : Str) (t : Tok) (it : Addr) (b : Bool) :
    Turn P w K tg (Its x) [it] it (fun i h => h.IsStrIter it (if b then "str_ascii_iterator" else "str_iterator") x t i) where
  mem := by simp
  obj := fun i h st a ha => by
    have e : a = it := by simpa using ha
    subst e
    obtain ⟨o, e, c, d⟩ := st
    exact ⟨o, e, fun v z => by rw [d] at z; cases z⟩
  keep := fun i h h' ⟨o, e, r⟩ k => ⟨o, k it (by simp) o e, r⟩
  item := by
    intro X hP hw hK hc i pins s σ H E I hf st hg
    subst hP hw hK
    obtain ⟨c, hx⟩ := hg
    obtain ⟨f0, f1, f2, f3, f4, f5⟩ := hf it (by simp)
    have go : ∀ h', h'.IsStrIter it (if b then "str_ascii_iterator" else "str_iterator") x t (i + 1) → Heap.SameBut it s.heap h' →
        ∃ u, (some (Value.str ⟨#[c]⟩ s.toks)) = some u ∧ wpAny (model X.prog X.w) X.A (letOwnedTupleGo tg (.ref it) u) (fun _ s2 => ∃ v H', Inv X pins σ H' s2 ∧ RelV v u ∧ (Its x).yld i H v H' ∧ s2.heap.IsStrIter it (if b then "str_ascii_iterator" else "str_iterator") x t (i + 1) ∧ ∀ b ∈ [it], H' b = none) E { s with heap := h', toks := s.toks + 1 } := by
      intro h' st' sb
      have I1 : Inv X pins σ H { s with heap := h', toks := s.toks + 1 } := I.turned (t' := s.toks + 1) (fun b o hb e => (sb.2 b hb).trans e) f0 f1 f3 f4 f5
      obtain ⟨o, e, cc, d⟩ := id st'
      exact ⟨_, rfl, go_of (s := { s with heap := h', toks := s.toks + 1 }) e cc d (by cases b <;> decide) ⟨.str ⟨#[c]⟩, H, I1, ⟨_, rfl⟩, ⟨rfl, c, hx, rfl⟩, st', fun b hb => (hf b hb).1⟩⟩
    cases b with
    | true => exact wpAny_pyNext_ascii_item st hx go
    | false => exact wpAny_pyNext_wide_item st hx go
  done := by
    intro X hP hw hK hc i pins s σ H E I hf st hg
    subst hP hw hK
    obtain ⟨f0, f1, f2, f3, f4, f5⟩ := hf it (by simp)
    cases b with
    | true => exact wpAny_pyNext_ascii_end (I.ok.hd hc) st hg fun h' eb => ⟨rfl, I.turned (t' := s.toks) (fun b o hb e => eb b o hb e) f0 f1 f3 f4 f5⟩
    | false => exact wpAny_pyNext_wide_end (I.ok.hd hc) st hg fun h' eb => ⟨rfl, I.turned (t' := s.toks) (fun b o hb e => eb b o hb e) f0 f1 f3 f4 f5⟩
  self := fun _ _ _ _ _ st h => by
    cases b with
    | true => exact wpAny_pyIter_striter_ascii st h
    | false => exact wpAny_pyIter_striter_wide st h
def iStr (tl : TE) : TI := fun σ H R => tl σ H fun v H1 => ∃ x, v = .str x ∧ R (Its x) H1
section
variable {X : Cx}
theorem pi_str {tg l : Expr} {tl : TE} (hl : PE X l tl) : PI X tg l (iStr tl) := by
  intro pins s σ H R I h
  refine thn (hl pins s σ H _ I h) fun v s1 ⟨y, H1, I1, r1, x, ey, q⟩ => ?_
  subst ey
  obtain ⟨t, rfl⟩ := r1
  have fin : ∀ b : Bool, PIE X pins σ tg R (.ref s1.heap.objs.size) { s1 with heap := s1.heap.push { cls := .type (if b then "str_ascii_iterator" else "str_iterator"), data := .fields #[.str x t, .int 0 0] } } := by
    intro b
    refine ⟨s1.heap.objs.size, [s1.heap.objs.size], _, _, H1, rfl, I1.kept (t' := s1.toks) fun b o e => Heap.get?_push_of_some _ e, turn_str x t _ b, ⟨_, Heap.get?_push_size _ rfl, rfl, rfl⟩, fun b hb => ?_, q⟩
    have e : b = s1.heap.objs.size := by simpa using hb
    subst e
    exact I1.fpOk (Nat.le_refl _) (I1.hok.fresh (Nat.le_refl _))
  cases ha : x.cps.all (· < 128) with
  | true => exact wpAny_pyIter_ascii ha (fin true)
  | false => exact wpAny_pyIter_wide ha (fin false)
end
/-! ### methods of texts -/
def rPart : V → List V → Hp → VK → Prop := fun z vs H Q => ∃ x y, z = .str x ∧ vs = [.str y] ∧ (y.length == 0) = false ∧ x.length ≤ sizeLine ∧ ∀ p, H p = none → Q (.ref p) (upd H p (.tup [.str (Txt.partition x y).1, .str (Txt.partition x y).2.1, .str (Txt.partition x y).2.2]))
def rSplit : V → List V → Hp → VK → Prop := fun z vs H Q => ∃ x y, z = .str x ∧ vs = [.str y] ∧ (y.length == 0) = false ∧ x.length + 2 ≤ sizeLine ∧ ∀ p, H p = none → Q (.ref p) (upd H p (.lst ((Txt.split x y).map V.str)))
section
variable {X : Cx}
end
end L2
namespace L2
open PySem PySem.Spec PyProof.Rows PySem.W
section
variable {X : Cx}
/-! ### int(text), any and all of bools, text * number -/
theorem truth_bl {prog : Program} {w : World} {A : Around} {b : Bool} {s : Shared} {Q : Bool → Shared → Prop} {E : Value → Shared → Prop} (h : Q b s) : wpAny (model prog w) A (truthy (.bool b)) Q E s := by
  cases b <;> exact wpAny_pure h
theorem range_any {bs : List Bool} : (List.range bs.length).any (fun i => bs.getD i false) = bs.any id := by
  rw [Bool.eq_iff_iff]
  simp only [List.any_eq_true, List.mem_range, id]
  constructor
  · rintro ⟨i, hi, h⟩
    exact ⟨bs[i], List.getElem_mem hi, by simpa [List.getD, hi] using h⟩
  · rintro ⟨b, hb, h⟩
    obtain ⟨i, hi, rfl⟩ := List.getElem_of_mem hb
    exact ⟨i, hi, by simpa [List.getD, hi] using h⟩
theorem range_all {bs : List Bool} : (List.range bs.length).all (fun i => bs.getD i false) = bs.all id := by
  rw [Bool.eq_iff_iff]
  simp only [List.all_eq_true, List.mem_range, id]
  constructor
  · intro h b hb
    obtain ⟨i, hi, rfl⟩ := List.getElem_of_mem hb
    simpa [List.getD, hi] using h i hi
  · intro h i hi
    simpa [List.getD, hi] using h bs[i] (List.getElem_mem hi)
/-- the walk that any and all make over a list of bools -/
theorem walk_bools {pins : List (Addr × Obj)} {σ : St} {H : Hp} {s : Shared} (I : Inv X pins σ H s) (hc : X.calm = true) {p : Addr} {bs : List Bool} (hq : SqL X.K H p (bs.map V.bl)) {E : Value → Shared → Prop} {k : (Nat → Bool) → Nat → Bool} {Q : VK} (q : Q (.bl (k (fun i => bs.getD i false) bs.length)) H) :
    wpAny (model X.prog X.w) X.A.in1 (pyIter (.ref p)) (fun it s₂ => ∃ J fp wr n P St tr, it = .ref J ∧ Walks X.prog X.w X.A.in1 J fp wr n P St ∧ St 0 s₂.heap ∧ TruthOf X.prog X.w X.A.in1 P tr ∧
      ∀ h' tk, (∀ b o, b ∉ wr → s₂.heap.get? b = some o → h'.get? b = some o) → EP X pins σ Q (.bool (k tr n)) { s₂ with heap := h', toks := tk }) E s := by
  obtain ⟨its, rv, pl, hz⟩ := I.list hq
  have hl := rv.length
  rw [List.length_map] at hl
  have ne : p ≠ s.heap.objs.size := by
    obtain ⟨o, n, e, _⟩ := pl
    exact Nat.ne_of_lt (Heap.lt_size e)
  refine wpAny_pyIter_list pl.isList ?_
  have keep : ∀ b o, s.heap.get? b = some o → (s.heap.push { cls := .type "list_iterator", data := .fields #[.ref p, .int 0 0] }).get? b = some o := fun b o e => Heap.get?_push_of_some _ e
  refine ⟨s.heap.objs.size, _, _, _, _, _, fun i => bs.getD i false, rfl, Walks.list (A := X.A.in1) (show X.A.in1.handled = none from I.ok.hd hc) s.heap.objs.size p ne its.toArray, ⟨⟨_, Heap.get?_push_size _ rfl, rfl, rfl⟩, pl.isList.at fun o e => keep p o e⟩, ?_, ?_⟩
  · intro i v s' Q' E' hv hQ
    have hv' : its[i]? = some v := by simpa using hv
    have hi : i < bs.length := by rw [hl]; exact (List.getElem?_eq_some_iff.mp hv').1
    obtain ⟨u, hu, ru⟩ := rv.get (show (bs.map V.bl)[i]? = some (.bl bs[i]) by simp [hi])
    rw [hv'] at hu
    cases hu
    cases ru
    have e : bs.getD i false = bs[i] := by simp [List.getD, hi]
    dsimp only at hQ
    rw [e] at hQ
    exact truth_bl hQ
  · intro h' tk kp
    have J : Inv X pins σ H { s with heap := h', toks := tk } := I.kept (t' := tk) fun b o e => kp b o (by
      have lt := Heap.lt_size e
      intro z
      have z' : b = s.heap.objs.size := by simpa using z
      rw [z'] at lt
      exact Nat.lt_irrefl _ lt) (keep b o e)
    have es : its.toArray.size = bs.length := by rw [List.size_toArray]; omega
    rw [es]
    exact ⟨.bl _, H, J, rfl, q⟩
theorem call_allB (hc : X.calm = true) : CallR X (.builtin "all") (fun xs H Q => ∃ p, ∃ bs : List Bool, xs = [.ref p] ∧ SqL X.K H p (bs.map V.bl) ∧ Q (.bl (bs.all id)) H) := by
  intro pins s σ H xs us Q I r h
  obtain ⟨p, bs, rfl, hq, q⟩ := h
  obtain ⟨u, rfl, rx⟩ := vals1 r
  cases rx
  exact call_all_walk (walk_bools I hc hq (k := fun tr n => (List.range n).all tr) (by rw [range_all]; exact q))
/-! ### text * number, text[a:b] -/
/-! ### a list against the empty one -/
end
end L2

/-! texts of figures, and of amounts, as lists of codes -/
namespace TM
open PySem PySem.NumText
/-- the figures of a number -/
def dg (n : Nat) : List Nat := (Nat.toDigits 10 n).map Char.toNat
theorem dg_len {n : Nat} (h : n < 10 ^ 60) : (dg n).length ≤ 60 := by
  unfold dg
  rw [List.length_map]
  exact PyProof.Rows.digits10_le (by decide) h
/-- figures without a nought ahead of others -/
structure Fig (cs : List Nat) : Prop where
  ne : cs ≠ []
  len : cs.length ≤ 60
  all : AllDigits cs
  no : cs.head? = some 48 → cs.length = 1
/-- the text L writes the amount t / b -/
def Reads (L : List Nat) (t b : Nat) : Prop :=
  (Fig L ∧ t = digitsVal L ∧ b = 1) ∨ ∃ p q, L = p ++ 47 :: q ∧ Fig p ∧ Fig q ∧ t = digitsVal p ∧ b = digitsVal q ∧ 2 ≤ b ∧ Nat.gcd t b = 1
def showL (t b : Nat) : List Nat := if b = 1 then dg t else dg t ++ 47 :: dg b
end TM
namespace TM
open PySem PySem.StrLaws PySem.Builtin PySem.Builtin.Str
abbrev cps (x : Str) : List Nat := x.cps.toList
abbrev sl : Str := ⟨#[47]⟩
theorem cps_append' (x y : Str) : cps (x ++ y) = cps x ++ cps y := by
  show (x.cps ++ y.cps).toList = _
  rw [Array.toList_append]
end TM

namespace L2
open PySem PySem.Spec PyProof.Rows PySem.W
def rCount : V → List V → Hp → VK → Prop := fun x vs H Q => ∃ l xs y, x = .ref l ∧ vs = [y] ∧ H l = some (.lst xs) ∧ flatV y = true ∧ xs.all flatV = true ∧ Q (.int ((xs.countP fun z => eqV z y : Nat) : Int)) H
def rIndex : V → List V → Hp → VK → Prop := fun x vs H Q => ∃ l xs y, ∃ j : Nat, ∃ z, x = .ref l ∧ vs = [y] ∧ H l = some (.lst xs) ∧ flatV y = true ∧ xs.all flatV = true ∧ xs[j]? = some z ∧ eqV z y = true ∧
  (∀ m z, m < j → xs[m]? = some z → eqV z y = false) ∧ Q (.int (j : Int)) H
section
variable {X : Cx}
end
theorem bt_val : bootBuiltins "ValueError" = some (.type "ValueError") := by decide +kernel
def Nx (n i : Nat) (P : Prop) : Prop := ∃ m', m' < n - i ∧ m' = n - (i + 1) ∧ i + 1 ≤ n ∧ P
theorem Nx.mk {n i : Nat} {P : Prop} (h : i < n) (p : P) : Nx n i P := ⟨n - (i + 1), by omega, rfl, h, p⟩
theorem blkN_none {X : Cx} {scope : Scope} {N' : List Str} {cl : List (Str × Addr)} {σ : St} : BlkN X N' scope cl σ (List.replicate N'.length none) := by
  refine ⟨by simp, fun i x v h1 h2 => ?_⟩
  rw [List.getElem?_replicate] at h2
  split at h2 <;> cases h2
/-- over the signs of a text -/
theorem comp_str {D : Addr} {x : Str} {g : TG} {tt : TT} {te : TE} {σ0 : St} {QD : Hp → Prop} {H1 : Hp} (Pv : Nat → List V → Hp → Prop) (h0 : Pv 0 [] (upd H1 D (.lst [])))
    (hl : ∀ i ys H, i ≤ x.cps.toList.length → Pv i ys H → H D = some (.lst ys) ∧ ys.length < sizeLine)
    (hs : ∀ i c ys H, x.cps.toList[i]? = some c → Pv i ys H → g (.str ⟨#[c]⟩) σ0 H fun σ2 H2 => Keep σ0 σ2 ∧ tt σ2 H2 fun b H3 => if b = true then te σ2 H3 fun y H4 => H4 D = some (.lst ys) ∧ Nx x.cps.toList.length i (Pv (i + 1) (ys ++ [y]) (upd H4 D (.lst (ys ++ [y])))) else Nx x.cps.toList.length i (Pv (i + 1) ys H3))
    (hd : ∀ ys H, Pv x.cps.toList.length ys H → QD H) :
    ∃ W : Nat → Nat → List V → Hp → Prop, (∃ m, W 0 m [] (upd H1 D (.lst []))) ∧
      ∀ i m ys H, W i m ys H → H D = some (.lst ys) ∧ ys.length < sizeLine ∧
        (((Its x).stop i H ∧ QD H) ∨ ((Its x).go i H ∧ ∀ v H', (Its x).yld i H v H' → g v σ0 H' fun σ2 H2 => Keep σ0 σ2 ∧ tt σ2 H2 fun b H3 =>
          if b = true then te σ2 H3 fun y H4 => H4 D = some (.lst ys) ∧ ∃ m', m' < m ∧ W (i + 1) m' (ys ++ [y]) (upd H4 D (.lst (ys ++ [y]))) else ∃ m', m' < m ∧ W (i + 1) m' ys H3)) := by
  refine ⟨fun i m ys H => m = x.cps.toList.length - i ∧ i ≤ x.cps.toList.length ∧ Pv i ys H, ⟨x.cps.toList.length, by simp, Nat.zero_le _, h0⟩, ?_⟩
  rintro i m ys H ⟨rfl, hi, p⟩
  obtain ⟨hD, hz⟩ := hl i ys H hi p
  refine ⟨hD, hz, ?_⟩
  by_cases hlt : i < x.cps.toList.length
  · have e : x.cps[i]? = some x.cps.toList[i] := by rw [← Array.getElem?_toList]; exact List.getElem?_eq_getElem hlt
    refine .inr ⟨⟨_, e⟩, fun v H' y => ?_⟩
    obtain ⟨rfl, c, hc, rfl⟩ := y
    exact hs i c ys _ (by rw [Array.getElem?_toList]; exact hc) p
  · have e : i = x.cps.toList.length := by omega
    subst e
    refine .inl ⟨?_, hd ys H p⟩
    show x.cps[x.cps.toList.length]? = none
    rw [← Array.getElem?_toList]
    exact List.getElem?_eq_none (Nat.le_refl _)
end L2

namespace L2
open PySem PySem.Spec PyProof.Rows
/-! ### an empty dict, of which it is only known that it is one -/
def dcE (a : Addr) : HO := .ext fun h => ∃ o, h.get? a = some o ∧ o.cls = .type "dict"
def tDict0 : TE := fun _ H Q => ∀ p, H p = none → Q (.ref p) (upd H p (dcE p))
section
variable {X : Cx} {pos : Pos}
/-- isinstance against a built-in type, a dict among the things that are asked -/
def IsiD (K : PySem.W.Frag) (H : Hp) (v : V) (T : String) (b : Bool) : Prop := Isi K H v T b ∨ ∃ a, v = .ref a ∧ H a = some (dcE a) ∧ T = "str" ∧ b = false
theorem call_isiZ : CallR X (.builtin "isinstance") (fun xs H Q => ∃ x T b, xs = [x, .ty T] ∧ IsiD X.K H x T b ∧ Q (.bl b) H) := by
  intro pins s σ H xs us Q I r h
  obtain ⟨x, T, b, rfl, hi | ⟨a, rfl, hH, rfl, rfl⟩, q⟩ := h
  · exact call_isi pins s σ H _ us Q I r ⟨x, T, b, rfl, hi, q⟩
  · obtain ⟨u, w', rfl, rx, ry⟩ := vals2 r
    cases ry
    cases rx
    obtain ⟨⟨o, e, c⟩, _⟩ := I.hok a _ hH
    exact IsiPair.dict_str e c ⟨.bl false, H, I.tok _, rfl, q⟩
end
end L2

namespace L2
open PySem PySem.Spec PyProof.Rows
/-! ### == and != of lists -/
def rEqL (K : PySem.W.Frag) : R2 := fun x y H Q => ∃ a b xs ys, ∃ e : Nat → Bool, x = .ref a ∧ y = .ref b ∧ SqL K H a xs ∧ SqL K H b ys ∧ (∀ (j : Nat) x y, xs[j]? = some x → ys[j]? = some y → DEq K H 40 x y (e j)) ∧
  Q (.bl ((List.range (min xs.length ys.length)).all e && xs.length == ys.length)) H
def rNeL (K : PySem.W.Frag) : R2 := fun x y H Q => ∃ a b xs ys, ∃ e : Nat → Bool, x = .ref a ∧ y = .ref b ∧ SqL K H a xs ∧ SqL K H b ys ∧ (∀ (j : Nat) x y, xs[j]? = some x → ys[j]? = some y → DEq K H 40 x y (e j)) ∧
  Q (.bl (!((List.range (min xs.length ys.length)).all e && xs.length == ys.length))) H
section
variable {X : Cx}
theorem nels_at {pins : List (Addr × Obj)} {σ : St} {H : Hp} {s : Shared} (I : Inv X pins σ H s) {A : Around} {a b : Addr} {xs ys : List V} {e : Nat → Bool} (hx : SqL X.K H a xs) (hy : SqL X.K H b ys) (hu : A.units < cLine)
    (hd : ∀ (j : Nat) x y u v, xs[j]? = some x → ys[j]? = some y → RelV x u → RelV y v → SeqAt.EqAt A.in1 s u v (e j)) :
    SeqAt.RcNeAt A s (.ref a) (.ref b) (!((List.range (min xs.length ys.length)).all e && xs.length == ys.length)) := by
  obtain ⟨its, r, tx, _⟩ := I.list hx
  obtain ⟨its', r', ty, _⟩ := I.list hy
  have l1 := r.length
  have l2 := r'.length
  by_cases hl : xs.length = ys.length
  · have q := SeqAt.RcNeAt.lists (A := A) (e := e) (isList_of tx) (isList_of ty) (by rw [List.size_toArray, List.size_toArray]; omega) hu (fun j h1 h2 => ?_)
    · rw [List.size_toArray, ← l1] at q
      have e1 : ((List.range (min xs.length ys.length)).all e && xs.length == ys.length) = (List.range xs.length).all e := by
        rw [← hl, Nat.min_self, beq_self_eq_true, Bool.and_true]
      rw [e1]
      exact q
    · rw [List.size_toArray] at h1 h2
      obtain ⟨x, hxj⟩ : ∃ x, xs[j]? = some x := ⟨_, List.getElem?_eq_getElem (by omega)⟩
      obtain ⟨y, hyj⟩ : ∃ y, ys[j]? = some y := ⟨_, List.getElem?_eq_getElem (by omega)⟩
      obtain ⟨u1, hu1, ru1⟩ := r.get hxj
      obtain ⟨u2, hu2, ru2⟩ := r'.get hyj
      have e1 : its.toArray[j] = u1 := by
        have := (List.getElem?_eq_some_iff.mp hu1).2
        simpa using this
      have e2 : its'.toArray[j] = u2 := by
        have := (List.getElem?_eq_some_iff.mp hu2).2
        simpa using this
      rw [e1, e2]
      exact hd j x y u1 u2 hxj hyj ru1 ru2
  · have q := SeqAt.RcNeAt.lists_lengths (A := A) (isList_of tx) (isList_of ty) (by rw [List.size_toArray, List.size_toArray, ← l1, ← l2, bne_iff_ne]; exact hl) hu
    have e1 : ((List.range (min xs.length ys.length)).all e && xs.length == ys.length) = false := by
      rw [beq_eq_false_iff_ne.mpr hl, Bool.and_false]
    rw [e1]
    exact q
theorem op_neL (hu : X.A.units + 64 < cLine) : OpR X (compareOp .NotEq) (rNeL X.K) := by
  intro pins s σ H x y v u Q I rx ry h
  obtain ⟨a, b, xs, ys, e, rfl, rfl, hx, hy, hd, q⟩ := h
  cases rx; cases ry
  exact nels_at I hx hy (by omega) (fun j x y u v h1 h2 r1 r2 => (hd j x y h1 h2).at I (by show X.A.units + 1 + 40 < cLine; omega) r1 r2) X.prog X.w X.xe _ ⟨.bl _, H, I, rfl, q⟩
end
/-- a value that equals itself at sight -/
def Sf (v : V) : Prop := flatV v = true ∨ ∃ a, v = .ref a
theorem eqV_self {v : V} (h : flatV v = true) : eqV v v = true := by
  cases v <;> simp_all [flatV, eqV]
theorem DEq.self {K : PySem.W.Frag} {H : Hp} {n : Nat} {v : V} (h : Sf v) : DEq K H n v v true := by
  rcases h with h | ⟨a, rfl⟩
  · have := DEq.flat (K := K) (H := H) (n := n) h h
    rwa [eqV_self h] at this
  · exact .same
theorem all_true (n : Nat) (m : Nat) (h : n = m) : ((List.range (min n m)).all (fun _ => true) && n == m) = true := by
  subst h
  rw [beq_self_eq_true, Bool.and_true, List.all_eq_true]
  exact fun _ _ => rfl
/-- two lists of the same things -/
def rNeLs (K : PySem.W.Frag) : R2 := fun x y H Q => ∃ a b xs, x = .ref a ∧ y = .ref b ∧ SqL K H a xs ∧ SqL K H b xs ∧ (∀ v ∈ xs, Sf v) ∧ Q (.bl false) H
theorem op_neLs {X : Cx} (hu : X.A.units + 64 < cLine) : OpR X (compareOp .NotEq) (rNeLs X.K) := by
  intro pins s σ H x y v u Q I rx ry h
  obtain ⟨a, b, xs, rfl, rfl, hx, hy, hd, q⟩ := h
  refine op_neL hu pins s σ H _ _ v u Q I rx ry ⟨a, b, xs, xs, fun _ => true, rfl, rfl, hx, hy, fun j x y h1 h2 => ?_, ?_⟩
  · rw [h1] at h2
    cases h2
    exact DEq.self (hd _ (List.mem_of_getElem? h1))
  · rw [all_true _ _ rfl]
    exact q
end L2

namespace L2
open PySem PySem.Spec PyProof.Rows
theorem bt_list : bootBuiltins "list" = some (.type "list") := by decide +kernel
/-! ### the tuples stay -/
def Tk (H H' : Hp) : Prop := ∀ b ys, H b = some (.tup ys) → H' b = some (.tup ys)
theorem Same.tk {H H' : Hp} (s : Same H H') : Tk H H' := fun b ys e => s b _ e
theorem Tk.lst {H : Hp} {l : Addr} {xs : List V} {o : HO} (h : H l = some (.lst xs)) : Tk H (upd H l o) := fun b ys e => by
  have ne : b ≠ l := fun z => by rw [z, h] at e; cases e
  rw [upd_ne ne]
  exact e
theorem sz1000 {n : Nat} (h : n ≤ 1000) : n ≤ sizeLine := Nat.le_trans h (by decide)
/-! ### displays of many elements -/
def starFree : Expr → Bool
  | .Starred .. => false
  | _ => true
theorem star_free {e : Expr} {es : List Expr} {env : Env} (h : starFree e = true) : starEach (e :: es) env = (false, eval e env) :: starEach es env := by
  cases e <;> first | rfl | cases h
theorem pa_c {X : Cx} {e : Expr} {es : List Expr} {te : TE} {t : TA} (h : PE X e te) (hr : PA X es t) (hf : starFree e = true := by rfl) : PA X (e :: es) (tCons te t) := pa_cons h hr (star_free hf)
end L2

namespace L2
open PySem PySem.Spec PyProof.Rows
/-! ### what a value tells: flat things, and tuples of such, at any depth -/
inductive Dt where
  | i (n : Int)
  | s (x : Str)
  | b (k : Bool)
  | n
  | t (l : List Dt)
/-- a tuple that nothing changes: one of the heap, or of the module -/
def SqZ (K : PySem.W.Frag) (H : Hp) (a : Addr) (xs : List V) : Prop := H a = some (.tup xs) ∨ ∃ (o : Obj) (its : Array Value) (n : Nat), K.lookup a = some o ∧ o.cls = .type "tuple" ∧ o.data = .seq its n ∧ its.size ≤ sizeLine ∧ Vals xs its.toList
inductive Dv (K : PySem.W.Frag) (H : Hp) : Nat → V → Dt → Prop where
  | i {n m} : Dv K H n (.int m) (.i m)
  | s {n x} : Dv K H n (.str x) (.s x)
  | b {n k} : Dv K H n (.bl k) (.b k)
  | n {n} : Dv K H n .non .n
  | t {n a xs ds} : SqZ K H a xs → xs.length = ds.length → (∀ (j : Nat) x d, xs[j]? = some x → ds[j]? = some d → Dv K H n x d) → Dv K H (n + 1) (.ref a) (.t ds)
/-- lists of such things -/
def DL (K : PySem.W.Frag) (H : Hp) (n : Nat) (xs : List V) (ds : List Dt) : Prop := xs.length = ds.length ∧ ∀ (j : Nat) x d, xs[j]? = some x → ds[j]? = some d → Dv K H n x d
/-- the same list of things, told twice -/
def rEqDL (K : PySem.W.Frag) : R2 := fun x y H Q => ∃ a b xs ys ds, x = .ref a ∧ y = .ref b ∧ SqL K H a xs ∧ SqL K H b ys ∧ DL K H 40 xs ds ∧ DL K H 40 ys ds ∧ Q (.bl true) H
def rNeDL (K : PySem.W.Frag) : R2 := fun x y H Q => ∃ a b xs ys ds, x = .ref a ∧ y = .ref b ∧ SqL K H a xs ∧ SqL K H b ys ∧ DL K H 40 xs ds ∧ DL K H 40 ys ds ∧ Q (.bl false) H
def rEqDT (K : PySem.W.Frag) : R2 := fun x y H Q => ∃ a b xs ys ds, x = .ref a ∧ y = .ref b ∧ SqT K H a xs ∧ SqT K H b ys ∧ DL K H 40 xs ds ∧ DL K H 40 ys ds ∧ Q (.bl true) H
def rNeDT (K : PySem.W.Frag) : R2 := fun x y H Q => ∃ a b xs ys ds, x = .ref a ∧ y = .ref b ∧ SqT K H a xs ∧ SqT K H b ys ∧ DL K H 40 xs ds ∧ DL K H 40 ys ds ∧ Q (.bl false) H
section
variable {X : Cx}
end
end L2

namespace L2
open PySem PySem.Spec PyProof.Rows
/-! ### a comprehension that takes names over -/
theorem closure_go {env : Env} : ∀ (names : List (Str × NameKind)) (acc : List (Str × Addr)), (∀ y ∈ names, y.2 = NameKind.free → ∃ c, env.cells.lookup y.1 = some c) → (∀ x c, acc.lookup x = some c → env.cells.lookup x = some c) →
    ∃ cl, (forIn (m := Sem) names acc (fun x r => do if (x.2 == NameKind.free) = true then do let c ← cellOf env x.1; pure (ForInStep.yield ((x.1, c) :: r)) else pure (ForInStep.yield r))) = pure cl ∧
      (∀ x c, cl.lookup x = some c → env.cells.lookup x = some c) ∧ (∀ y ∈ names, y.2 = NameKind.free → ∃ c, cl.lookup y.1 = some c) ∧ ∀ x, (∃ c, acc.lookup x = some c) → ∃ c, cl.lookup x = some c
  | [], acc, _, h2 => ⟨acc, rfl, h2, (fun y hy => by simp at hy), fun _ h => h⟩
  | y :: r, acc, h1, h2 => by
    by_cases e : y.2 = NameKind.free
    · obtain ⟨c, hc⟩ := h1 y List.mem_cons_self e
      obtain ⟨cl, e1, e2, e3, e4⟩ := closure_go r ((y.1, c) :: acc) (fun z hz => h1 z (List.mem_cons_of_mem _ hz)) (fun x d hx => by
        rw [List.lookup_cons] at hx
        split at hx
        · rename_i hb
          have : x = y.1 := eq_of_beq hb
          rw [this, hc]
          exact hx
        · exact h2 x d hx)
      refine ⟨cl, ?_, e2, fun z hz ez => ?_, fun x hx => e4 x ?_⟩
      · rw [List.forIn_cons, if_pos (by rw [e]; rfl)]
        unfold cellOf
        rw [hc]
        simp only [pure_bind]
        exact e1
      · rcases List.mem_cons.mp hz with rfl | hz
        · exact e4 z.1 ⟨c, by rw [List.lookup_cons, beq_self_eq_true]⟩
        · exact e3 z hz ez
      · obtain ⟨d, hd⟩ := hx
        rw [List.lookup_cons]
        split
        · exact ⟨c, rfl⟩
        · exact ⟨d, hd⟩
    · obtain ⟨cl, e1, e2, e3, e4⟩ := closure_go r acc (fun z hz => h1 z (List.mem_cons_of_mem _ hz)) h2
      refine ⟨cl, ?_, e2, fun z hz ez => ?_, e4⟩
      · rw [List.forIn_cons, if_neg (by intro z; exact e (eq_of_beq z))]
        simp only [pure_bind]
        exact e1
      · rcases List.mem_cons.mp hz with rfl | hz
        · exact absurd ez e
        · exact e3 z hz ez
theorem closure_ok {scope : Scope} {env : Env} (h : ∀ y ∈ scope.names, y.2 = NameKind.free → ∃ c, env.cells.lookup y.1 = some c) :
    ∃ cl, closureFor scope env = pure cl ∧ (∀ x c, cl.lookup x = some c → env.cells.lookup x = some c) ∧ ∀ y ∈ scope.names, y.2 = NameKind.free → ∃ c, cl.lookup y.1 = some c := by
  obtain ⟨cl, e1, e2, e3, _⟩ := closure_go (env := env) scope.names [] h (fun x c e => by simp at e)
  refine ⟨cl, ?_, e2, e3⟩
  simp only [closureFor]
  rw [show (forIn (m := Sem) scope.names [] fun x r => if (x.2 == NameKind.free) = true then (do let c ← cellOf env x.1; pure (ForInStep.yield ((x.1, c) :: r))) else pure (ForInStep.yield r)) = pure cl from e1]
  rfl
theorem relabel_from {scope : Scope} {env : Env} {x : Str} (hc : ∀ y ∈ scope.names, y.2 ≠ NameKind.cell) (h : (relabel scope env).names.lookup x = some .cell ∨ (relabel scope env).names.lookup x = some .free) : ∃ y ∈ scope.names, y.1 = x ∧ y.2 = NameKind.free := by
  have e' : ∃ k, (k = NameKind.cell ∨ k = NameKind.free) ∧ (relabel scope env).names.lookup x = some k := by
    rcases h with e | e
    · exact ⟨_, .inl rfl, e⟩
    · exact ⟨_, .inr rfl, e⟩
  obtain ⟨k, hk, e⟩ := e'
  have hm := PySem.mem_of_lookup e
  obtain ⟨y, hy, hy2⟩ := List.mem_map.mp hm
  obtain ⟨n, kk⟩ := y
  have hn := hc _ hy
  simp only at hy2 hn
  split at hy2
  · rename_i hf
    injection hy2 with a1 a2
    subst a1
    simp only [Bool.and_eq_true] at hf
    exact ⟨(n, kk), hy, rfl, eq_of_beq hf.1.1⟩
  · injection hy2 with a1 a2
    subst a1 a2
    rcases hk with rfl | rfl
    · exact absurd rfl hn
    · exact ⟨_, hy, rfl, rfl⟩
theorem clOk_of {X : Cx} (ok : X.Ok) {scope : Scope} (hc : ∀ y ∈ scope.names, y.2 ≠ NameKind.cell) (h : ∀ y ∈ scope.names, y.2 = NameKind.free → X.env.kindOf y.1 = some .cell ∨ X.env.kindOf y.1 = some .free) : ∃ cl, ClOk X scope cl := by
  obtain ⟨cl, e1, e2, e3⟩ := closure_ok (scope := scope) (env := X.env) fun y hy ey => ok.has y.1 (h y hy ey)
  refine ⟨cl, e1, e2, fun x hx => ?_⟩
  obtain ⟨y, hy, rfl, ey⟩ := relabel_from hc hx
  exact e3 y hy ey
theorem pe_compC {X : Cx} {elt tg iter : Expr} {ifs : List Expr} {scope : Scope} {pos : Pos} {N' : List Str} {wi : TI} {g : TG} {tt : TT} {te : TE} (σf : St → St)
    (hc : X.calm = true) (hkind : scope.kind = .function) (hcell : ∀ y ∈ scope.names, y.2 ≠ .cell) (hnames : ∀ y ∈ scope.names, y.2 = .local → scope.names.lookup y.1 = some .local)
    (hk : ∀ y ∈ scope.names, y.2 = NameKind.free → X.env.kindOf y.1 = some .cell ∨ X.env.kindOf y.1 = some .free)
    (hN : ∀ cl (σ : St), σ.length = X.N.length → BlkN X N' scope cl σ (σf σ)) (hi : PI X tg iter wi)
    (hg : ∀ cl C s₀ H₀ ex pn, PG (blk X N' scope cl C s₀ H₀ ex pn) tg g) (ht : ∀ cl C s₀ H₀ ex pn, PIfs (blk X N' scope cl C s₀ H₀ ex pn) ifs tt) (he : ∀ cl C s₀ H₀ ex pn, PE (blk X N' scope cl C s₀ H₀ ex pn) elt te)
    (hs : ∀ x, foldedSetIterable iter X.env x = pure x := by intro _; rfl) : PE X (.ListComp elt [⟨tg, iter, ifs, 0⟩] scope pos) (tComp σf wi g tt te) := by
  intro pins s σ H Q I h
  obtain ⟨cl, hcl⟩ := clOk_of I.ok hcell hk
  exact pe_comp σf hc hkind hcell hnames hcl (hN cl) hi (hg cl) (ht cl) (he cl) hs pins s σ H Q I h
/-- the names that are taken over: free in the block, cells of the frame -/
theorem hk_of {X : Cx} {scope sc : Scope} (hs : X.env.scope = sc) (h : (scope.names.all fun y => y.2 != NameKind.free || sc.names.lookup y.1 == some NameKind.cell || sc.names.lookup y.1 == some NameKind.free) = true) :
    ∀ y ∈ scope.names, y.2 = NameKind.free → X.env.kindOf y.1 = some .cell ∨ X.env.kindOf y.1 = some .free := fun y hy ey => by
  have q := List.all_eq_true.mp h y hy
  unfold Env.kindOf
  rw [hs]
  rw [ey] at q
  simp only [bne_self_eq_false, Bool.false_or, Bool.or_eq_true] at q
  rcases q with q | q
  · exact .inl (eq_of_beq q)
  · exact .inr (eq_of_beq q)
theorem lookup_relabel_free {env : Env} {x : Str} (hk : env.scope.kind = .function) (hx : env.kindOf x = some .cell) : ∀ {names : List (Str × NameKind)}, names.lookup x = some .free →
    (names.map fun (n, k) => if (k == NameKind.free && env.scope.kind == .function && env.kindOf n == some .cell) then (n, NameKind.cell) else (n, k)).lookup x = some .cell
  | [], h => by simp at h
  | (n, k) :: r, h => by
    rw [List.map_cons]
    rw [List.lookup_cons] at h
    by_cases e : (x == n) = true
    · rw [e] at h
      have e' : x = n := eq_of_beq e
      subst e'
      have hf : k = NameKind.free := Option.some.inj h
      subst hf
      have c : (NameKind.free == NameKind.free && env.scope.kind == .function && env.kindOf x == some .cell) = true := by rw [hk, hx]; rfl
      rw [show (match ((x, NameKind.free) : Str × NameKind) with | (n, k) => if (k == NameKind.free && env.scope.kind == .function && env.kindOf n == some .cell) = true then (n, NameKind.cell) else (n, k)) = (x, NameKind.cell) from if_pos c]
      rw [List.lookup_cons, beq_self_eq_true]
    · have e0 : (x == n) = false := by simpa using e
      rw [e0] at h
      have ih := lookup_relabel_free hk hx h
      have en : ∀ q : Str × NameKind, q.1 = n → (q :: (r.map fun (n, k) => if (k == NameKind.free && env.scope.kind == .function && env.kindOf n == some .cell) then (n, NameKind.cell) else (n, k))).lookup x = some .cell := fun q hq => by
        obtain ⟨q1, q2⟩ := q
        simp only at hq
        subst hq
        rw [List.lookup_cons, e0]
        exact ih
      refine en _ ?_
      show (if _ then (n, NameKind.cell) else (n, k)).1 = n
      split <;> rfl
theorem blkN_by {X : Cx} {N' N : List Str} {scope sc : Scope} {cl : List (Str × Addr)} {σ : St} (ts : List (Option Nat)) (hN : X.N = N) (hsc : X.env.scope = sc) (hl : ts.length = N'.length) (hk : sc.kind = .function)
    (h : ((ts.zip N').all fun p => match p.1 with | none => true | some j => N[j]? == some p.2 && sc.names.lookup p.2 == some NameKind.cell && scope.names.lookup p.2 == some NameKind.free) = true) :
    BlkN X N' scope cl σ (ts.map fun t => t.bind fun j => (σ[j]?).join) := by
  refine ⟨by rw [List.length_map, hl], fun i x v h1 h2 => ?_⟩
  rw [List.getElem?_map] at h2
  cases ht : ts[i]? with
  | none => rw [ht] at h2; cases h2
  | some t =>
    rw [ht] at h2
    have h2' : (t.bind fun j => (σ[j]?).join) = some v := Option.some.inj h2
    cases t with
    | none => cases h2'
    | some j =>
      have hm : (some j, x) ∈ ts.zip N' := List.mem_of_getElem? (by rw [List.getElem?_zip_eq_some]; exact ⟨ht, h1⟩ : (ts.zip N')[i]? = some (some j, x))
      have q := List.all_eq_true.mp h _ hm
      simp only [Bool.and_eq_true] at q
      obtain ⟨⟨q1, q2⟩, q3⟩ := q
      have q1' := eq_of_beq q1
      have q2' := eq_of_beq q2
      have q3' := eq_of_beq q3
      have kd : X.env.kindOf x = some .cell := by
        unfold Env.kindOf
        rw [hsc]
        exact q2'
      refine ⟨j, by rw [hN]; exact q1', ?_, by rw [hsc]; exact .inr (.inl q2'), (by rw [kd]; decide), .inl (lookup_relabel_free (by rw [hsc]; exact hk) kd q3')⟩
      have h3 : (σ[j]?).join = some v := h2'
      cases hj : σ[j]? with
      | none => rw [hj] at h3; cases h3
      | some o => rw [hj] at h3; cases o with
        | none => cases h3
        | some u => cases h3; rfl
end L2

namespace L2
open PySem PySem.Spec PyProof.Rows
/-! ### name = [ .. for .. ]: the name is stored ahead of the block's end -/
theorem ps_comp {X : Cx} {iy : Nat} {y : Str} {py spos : Pos} {elt tg iter : Expr} {ifs : List Expr} {scope : Scope} {pos : Pos} {N' : List Str} {cl : List (Str × Addr)} {wi : TI} {g : TG} {tt : TT} {te : TE} (σf : St → St)
    (hc : X.calm = true) (hkind : scope.kind = .function) (hcell : ∀ y ∈ scope.names, y.2 ≠ .cell) (hnames : ∀ y ∈ scope.names, y.2 = .local → scope.names.lookup y.1 = some .local) (hcl : ClOk X scope cl)
    (hN : ∀ σ : St, σ.length = X.N.length → BlkN X N' scope cl σ (σf σ)) (hi : PI X tg iter wi)
    (hg : ∀ C s₀ H₀ ex pn, PG (blk X N' scope cl C s₀ H₀ ex pn) tg g) (ht : ∀ C s₀ H₀ ex pn, PIfs (blk X N' scope cl C s₀ H₀ ex pn) ifs tt) (he : ∀ C s₀ H₀ ex pn, PE (blk X N' scope cl C s₀ H₀ ex pn) elt te)
    (hnd : X.N.Nodup) (hiy : X.N[iy]? = some y) (hy : Loc X.env.scope y) (hfy : X.fn y = true ∨ X.env.scope.names.lookup y = some .local)
    (hsw : swapsWith (.ListComp elt [⟨tg, iter, ifs, 0⟩] scope pos) (some (.Name y py)) spos.line X.env = pure true)
    (hs : ∀ x, foldedSetIterable iter X.env x = pure x := by intro _; rfl) : PS X (.Assign [.Name y py] (.ListComp elt [⟨tg, iter, ifs, 0⟩] scope pos) spos) (tAsg (tComp σf wi g tt te) (gName iy)) := by
  intro pins s σ H Dn I h
  rw [exec_Assign_Name_used _ _ _ _ hsw]
  refine wpAny_bind (wpAny_standAt (wpAny_bind ?_))
  show wpAny _ X.A (do let _ ← comprehension (.ListComp elt [⟨tg, iter, ifs, 0⟩] scope pos) scope X.env _ (newList []) false (eval iter X.env) (some (assign (.Name y py) X.env))) _ _ s
  refine wpAny_bind (wpAny_mono (wpAny_comprehension_free (use := some (assign (.Name y py) X.env)) (Q := fun _ s' => SP X pins Dn .next s') rfl hs hcl.run hkind hnames
    (thn (hi pins s σ H _ I h) fun v s1 h1 => thn h1 fun itv s2 h2 => ?_)) (fun _ s' hq => wpAny_pure (wpAny_pure hq)) fun _ _ e => e)
  obtain ⟨it, fp, tn, J, H2, rfl, I2, T, st2, f2, q⟩ := h2
  refine wpAny_newObj_type (wpAny_newFunctionEnv hcell (by intro y hy; simp at hy) (fun h₁ hns₁ hsb₁ => ?_) hkind)
  dsimp only at hns₁ hsb₁ ⊢
  have hfo : ∀ b ∈ fp, b < s2.heap.objs.size := fun b hb => by
    obtain ⟨o, e, _⟩ := T.obj _ _ st2 b hb
    exact Heap.lt_size e
  have hDf : H2 s2.heap.objs.size = none := I2.hok.fresh (Nat.le_refl _)
  obtain ⟨W, ⟨m0, w0⟩, turn⟩ := q s2.heap.objs.size hDf
  have I3 : Inv X pins σ (upd H2 s2.heap.objs.size (.lst [])) { s2 with heap := s2.heap.push { cls := .type "list", data := .seq ([] : List Value).toArray } } := I2.lnew (its := []) (t' := s2.toks) .nil (Nat.zero_le _)
  have f3 : ∀ b ∈ fp, FpOk X pins (upd H2 s2.heap.objs.size (.lst [])) b := fun b hb => ⟨by rw [upd_ne (Nat.ne_of_lt (hfo b hb))]; exact (f2 b hb).1, (f2 b hb).2⟩
  generalize hD : s2.heap.objs.size = D at *
  generalize hs3 : ({ s2 with heap := s2.heap.push { cls := .type "list", data := .seq ([] : List Value).toArray } } : Shared) = s3 at *
  have hh3 : s3.heap = s2.heap.push { cls := .type "list", data := .seq ([] : List Value).toArray } := by rw [← hs3]
  have hsz3 : s2.heap.objs.size < s3.heap.objs.size := by rw [hh3, Heap.size_push]; exact Nat.lt_succ_self _
  have e3 : ∀ h t, ({ s2 with heap := h, toks := t } : Shared) = { s3 with heap := h, toks := t } := fun h t => by rw [← hs3]
  rw [← hh3] at hns₁ hsb₁ ⊢
  have hk3 : ∀ b o, s3.heap.get? b = some o → h₁.get? b = some o := fun b o e => hsb₁.extBut b o (Nat.ne_of_lt (Heap.lt_size e)) (Heap.get?_push_of_some _ e)
  have I4 := blk_start (t' := s3.toks) I3 hkind hcl (hN σ I.len) f3 (fun b hb => Nat.lt_trans (hfo b hb) (hD ▸ hsz3)) (hns := by simpa using hns₁) hk3
  generalize hB : blk X N' scope cl s3.heap.objs.size s3 (upd H2 D (.lst [])) fp (X.pn ++ pins) = B at *
  have hBp : B.prog = X.prog := by rw [← hB]; rfl
  have hBw : B.w = X.w := by rw [← hB]; rfl
  have hBK : B.K = X.K := by rw [← hB]; rfl
  have hBA : B.A = X.A := by rw [← hB]; rfl
  have hBc : B.calm = true := by rw [← hB]; exact hc
  have hBe : B.env = compEnvC scope cl s3.heap.objs.size X.env := by rw [← hB]; rfl
  have hBx : B.xe = fun _ _ => False := by rw [← hB]; rfl
  have hGB : PG B tg g := hB ▸ hg _ _ _ _ _
  have hTB : PIfs B ifs tt := hB ▸ ht _ _ _ _ _
  have hEB : PE B elt te := hB ▸ he _ _ _ _ _
  have stat : ∀ {H' : Hp}, (∀ b ∈ fp, H' b = none) → ∀ b ∈ fp, FpOk B [] H' b := fun {H'} hn b hb => by
    obtain ⟨f0, f1, f2', f3', f4, f5⟩ := f3 b hb
    rw [← hB]
    refine ⟨hn b hb, Nat.ne_of_lt (Nat.lt_trans (hfo b hb) (hD ▸ hsz3)), fun z => ?_, .inl hb, fun x c e => f4 x c (hcl.sub x c e), fun p hp => ?_⟩
    · rcases List.mem_cons.mp (I.stkSub b z) with z | z
      · exact f1 z
      · exact f2' z
    · rw [show (blk X N' scope cl s3.heap.objs.size s3 (upd H2 D (.lst [])) fp (X.pn ++ pins)).pn = X.pn ++ pins from rfl, List.append_nil] at hp
      exact f5 p hp
  have loop : ∀ s4 : Shared, Inv B [] (σf σ) (upd H2 D (.lst [])) s4 → tn 0 s4.heap →
      codeAny (model X.prog X.w) X.A (.compLoop (.ListComp elt [⟨tg, iter, ifs, 0⟩] scope pos) 0 (.ref it) (.ref D) (compEnvC scope cl s3.heap.objs.size X.env)) (compPost (model X.prog X.w) X.A X.xe (some (assign (.Name y py) X.env)) (fun _ s' => SP X pins Dn .next s') (.ref D) s3.heap.objs.size) s4 := by
    intro s4 I4 st4
    refine compLoop_gen (I := fun n s' => ∃ i ys H', Inv B [] (σf σ) H' s' ∧ tn i s'.heap ∧ (∀ b ∈ fp, H' b = none) ∧ W i n ys H') ?_ m0 ⟨0, [], _, I4, st4, fun b hb => (f3 b hb).1, w0⟩
    rintro n s5 ⟨i, ys, H5, I5, st5, fr5, w5⟩
    obtain ⟨hD5, hlen5, alt⟩ := turn i n ys H5 w5
    rcases alt with ⟨stop, qn⟩ | ⟨go, step⟩
    · have z := T.done B hBp hBw hBK hBc i [] s5 (σf σ) H5 (fun _ _ => False) I5 (stat fr5) st5 stop
      rw [hBA] at z
      refine thn z fun r s6 ⟨hr, I6⟩ => ?_
      subst hr
      obtain ⟨m6, hn6, _⟩ := I6.loc
      rw [hBe] at hn6
      subst hB
      have I6x : Inv X pins σ H5 s6 := blk_end I3 f3 I6 (h'' := s6.heap) ⟨rfl, fun _ _ => rfl⟩
      have fC : FpOk X pins H5 s3.heap.objs.size := I3.fpOk (Nat.le_refl _) I6.free
      obtain ⟨g0, g1, g2, g3, g4, g5⟩ := id fC
      obtain ⟨oC, es, ep, hoC, hdC, rest⟩ := hn6
      have I6p := I6x.pinned (fp := [s3.heap.objs.size]) (fun b hb => by rw [List.mem_singleton.mp hb]; exact fC) (fun b hb => ⟨oC, by rw [List.mem_singleton.mp hb]; exact hoC, fun v e => by rw [hdC] at e; cases e⟩)
      show wpAny (model X.prog X.w) X.A (assign (.Name y py) X.env (.ref D)) _ X.xe s6
      refine thn (pg_name (i := iy) (pos := py) hnd hiy hy hfy _ s6 σ H5 (.ref D) (.ref D) (fun σ' H' => Dn.nx σ' H') I6p rfl qn) fun _ s7 ⟨σ7, H7, I7, q7⟩ => ?_
      have pc := I7.pin (s3.heap.objs.size, oC) (List.mem_append_right _ (List.mem_append_right _ (mem_pinsAt (by simp) hoC)))
      refine ⟨m6, ⟨oC, es, ep, pc.1, hdC, rest⟩, fun h' hs' => ⟨σ7, H7, ?_, q7⟩⟩
      exact I7.unpinned.turned (t' := s7.toks) (fun b o hb e => hs'.extBut b o hb e) pc.2.1 g1 g3 g4 g5
    · have z := T.item B hBp hBw hBK hBc i [] s5 (σf σ) H5 (fun _ _ => False) I5 (stat fr5) st5 go
      rw [hBA] at z
      refine thn z fun r s6 ⟨u, hr, h6⟩ => ?_
      subst hr
      refine thn h6 fun _ s7 ⟨x, H7, I7, r7, y7, st7, fr7⟩ => ?_
      have I7' := I7.pinned (stat fr7) (T.obj _ _ st7)
      have z8 := hGB _ s7 (σf σ) H7 x u _ I7' r7 (step x H7 y7)
      rw [hBp, hBw, hBA, hBe, hBx] at z8
      refine thn z8 fun _ s8 ⟨σ8, H8, I8, k8, q8⟩ => ?_
      have z9 := hTB _ s8 σ8 H8 _ I8 q8
      rw [hBp, hBw, hBA, hBe, hBx] at z9
      refine thn z9 fun ok s9 ⟨H9, I9, q9⟩ => ?_
      have again : ∀ {ys' : List V} {H' : Hp} {s' : Shared}, Inv B ([] ++ pinsAt fp s7.heap) σ8 H' s' → (∃ m', m' < n ∧ W (i + 1) m' ys' H') → ∃ m, m < n ∧ ∃ i ys H', Inv B [] (σf σ) H' s' ∧ tn i s'.heap ∧ (∀ b ∈ fp, H' b = none) ∧ W i m ys H' := fun {ys' H' s'} J ⟨m', hm, w'⟩ => by
        refine ⟨m', hm, i + 1, ys', H', J.unpinned.weak k8.len.symm k8.at', T.keep _ _ _ st7 fun b hb o e => (J.pin (b, o) (List.mem_append_right _ (List.mem_append_right _ (mem_pinsAt hb e)))).1, fun b hb => ?_, w'⟩
        obtain ⟨o, e, d⟩ := T.obj _ _ st7 b hb
        exact (J.pin (b, o) (List.mem_append_right _ (List.mem_append_right _ (mem_pinsAt hb e)))).2.1
      cases ok with
      | false => exact again I9 q9
      | true =>
        have z10 := hEB _ s9 σ8 H9 _ I9 q9
        rw [hBp, hBw, hBA, hBe, hBx] at z10
        refine thn z10 fun y10 s10 ⟨y, H10, I10, r10, hD10, q10⟩ => ?_
        have z11 := mt_append (X := B) _ s10 σ8 H10 (.ref D) [y] (.ref D) [y10] (fun _ H' => ∃ m', m' < n ∧ W (i + 1) m' (ys ++ [y]) H') I10 rfl (.cons r10 .nil) ⟨D, ys, y, rfl, rfl, hD10, hlen5, q10⟩
        rw [hBp, hBw, hBA, hBx] at z11
        refine thn z11 fun _ s11 ⟨_, H11, I11, _, q11⟩ => again I11 q11
  have st4 : tn 0 ({ s3 with heap := h₁, toks := s3.toks } : Shared).heap := T.keep _ _ _ st2 fun b hb o e => hk3 b o (by rw [hh3]; exact Heap.get?_push_of_some _ e)
  have L4 := loop _ I4 st4
  subst hs3
  exact codeAny_compStart_list L4 (T.self _ 0 _ _ _ st4 L4)
end L2

namespace L2
open PySem PySem.Spec PyProof.Rows
/-! ### comprehensions, by what each element is -/
/-- an iterator that gives the things xs, as long as the heap only grows -/
structure Ys (J : It) (xs : List V) (H1 : Hp) : Prop where
  go : ∀ i H, Same H1 H → i < xs.length → J.go i H
  yld : ∀ i H x H', Same H1 H → i < xs.length → J.yld i H x H' → H' = H ∧ xs[i]? = some x
  stop : ∀ i H, Same H1 H → xs.length ≤ i → J.stop i H
theorem Ys.tup {K : PySem.W.Frag} {a : Addr} {xs : List V} {H1 : Hp} (h : SqT K H1 a xs) : Ys (Itt K a) xs H1 where
  go := fun i H s hi => ⟨xs, xs[i], s.tup h, List.getElem?_eq_getElem hi⟩
  yld := fun i H x H' s _ y => ⟨y.1, y.2 xs (s.tup h)⟩
  stop := fun i H s hi => ⟨xs, s.tup h, hi⟩
def rngV (lo : Int) (n : Nat) : List V := (List.range n).map fun (i : Nat) => V.int (lo + (i : Int))
theorem rngV_len (lo : Int) (n : Nat) : (rngV lo n).length = n := by unfold rngV; rw [List.length_map, List.length_range]
theorem rngV_get {lo : Int} {n i : Nat} {x : V} (h : (rngV lo n)[i]? = some x) : i < n ∧ x = .int (lo + i) := by
  have hi : i < n := by rw [← rngV_len lo n]; exact (List.getElem?_eq_some_iff.mp h).1
  unfold rngV at h
  rw [List.getElem?_map, List.getElem?_range hi] at h
  exact ⟨hi, (Option.some.inj h).symm⟩
theorem Ys.rng {lo : Int} {n : Nat} {H1 : Hp} : Ys (Itr lo n) (rngV lo n) H1 where
  go := fun i H _ hi => by rw [rngV_len] at hi; exact hi
  yld := fun i H x H' _ hi y => ⟨y.1, by
    obtain ⟨_, rfl⟩ := y
    rw [rngV_len] at hi
    unfold rngV
    rw [List.getElem?_map, List.getElem?_range hi]
    rfl⟩
  stop := fun i H _ hi => by rw [rngV_len] at hi; exact hi
theorem snoc_get {α : Type} {ys : List α} {y z : α} {j : Nat} (h : (ys ++ [y])[j]? = some z) : (j < ys.length ∧ ys[j]? = some z) ∨ (j = ys.length ∧ z = y) := by
  by_cases hj : j < ys.length
  · rw [List.getElem?_append_left hj] at h
    exact .inl ⟨hj, h⟩
  · rw [List.getElem?_append_right (by omega)] at h
    have e0 : j - ys.length = 0 := by
      cases hz : j - ys.length with
      | zero => rfl
      | succ n => rw [hz] at h; simp at h
    rw [e0] at h
    exact .inr ⟨by omega, by simpa using h.symm⟩
theorem comp_rel {J : It} {xs : List V} {D : Addr} {g : TG} {te : TE} {σ0 : St} {QD : Hp → Prop} {H1 : Hp} (Y : Ys J xs H1) (Pr : Nat → V → V → Hp → Prop) (hP : ∀ i x y H H', Pr i x y H → Tk H H' → Pr i x y H') (hD : H1 D = none) (hl : xs.length ≤ 1000)
    (hs : ∀ i x H' (R : VK), xs[i]? = some x → Same H1 H' → (∀ y H4, Same H' H4 → Pr i x y H4 → R y H4) → g x σ0 H' fun σ2 H2 => Keep σ0 σ2 ∧ te σ2 H2 R)
    (hd : ∀ ys H', Same H1 H' → H' D = some (.lst ys) → ys.length = xs.length → (∀ i x y, xs[i]? = some x → ys[i]? = some y → Pr i x y H') → QD H') :
    ∃ W : Nat → Nat → List V → Hp → Prop, (∃ m, W 0 m [] (upd H1 D (.lst []))) ∧ ∀ i m ys H, W i m ys H → H D = some (.lst ys) ∧ ys.length < sizeLine ∧
      ((J.stop i H ∧ QD H) ∨ (J.go i H ∧ ∀ x H', J.yld i H x H' → g x σ0 H' fun σ2 H2 => Keep σ0 σ2 ∧ tNoIf σ2 H2 fun b H3 =>
        if b = true then te σ2 H3 fun y H4 => H4 D = some (.lst ys) ∧ ∃ m', m' < m ∧ W (i + 1) m' (ys ++ [y]) (upd H4 D (.lst (ys ++ [y]))) else ∃ m', m' < m ∧ W (i + 1) m' ys H3)) := by
  refine ⟨fun i m ys H => m = xs.length - i ∧ i ≤ xs.length ∧ Same H1 H ∧ H D = some (.lst ys) ∧ ys.length = i ∧ ∀ j x y, xs[j]? = some x → ys[j]? = some y → Pr j x y H,
    ⟨_, rfl, Nat.zero_le _, Same.upd hD, upd_same, rfl, fun j x y _ h => by simp at h⟩, ?_⟩
  rintro i m ys H ⟨rfl, hi, sm, hDH, yl, pr⟩
  refine ⟨hDH, small1000 (by omega), ?_⟩
  by_cases hlt : i < xs.length
  · refine .inr ⟨Y.go i H sm hlt, fun x H' y => ?_⟩
    obtain ⟨rfl, hx⟩ := Y.yld i H x H' sm hlt y
    refine hs i x H' _ hx sm fun y H4 s4 py => ?_
    have hD4 := s4 _ _ hDH
    have tk : Tk H4 (upd H4 D (.lst (ys ++ [y]))) := Tk.lst hD4
    refine ⟨hD4, xs.length - (i + 1), by omega, rfl, hlt, fun b o hb => ?_, upd_same, by rw [List.length_append, yl]; rfl, fun j x' y' hx' hy' => ?_⟩
    · rw [upd_ne (ne_of_none hb hD)]
      exact s4 _ _ (sm _ _ hb)
    · rcases snoc_get hy' with ⟨_, hy'⟩ | ⟨e, e'⟩
      · exact hP _ _ _ _ _ (hP _ _ _ _ _ (pr j x' y' hx' hy') (Same.tk s4)) tk
      · subst e'
        have : j = i := by omega
        subst this
        rw [hx] at hx'
        cases hx'
        exact hP _ _ _ _ _ py tk
  · have e : i = xs.length := by omega
    subst e
    exact .inl ⟨Y.stop _ H sm (Nat.le_refl _), hd ys H sm hDH yl pr⟩
/-! ### rules within a comprehension: the module is named, so that the reading does not hang on the block -/
end L2

namespace L2
open PySem PySem.Spec PyProof.Rows
/-! ### zip of a tuple and a list -/
section
variable {prog : Program} {w : World} {A : Around} {E : Value → Shared → Prop} {s : Shared}
theorem tupNext {it t : Addr} {i : Nat} {its : Array Value} {x : Value} {Q : Value → Shared → Prop} (st : s.heap.IsTupleIter it t i) (hl : s.heap.IsTuple t its) (hx : its[i]? = some x)
    (q : ∀ g, g.IsTupleIter it t (i + 1) → Heap.SameBut it s.heap g → Q x { s with heap := g }) : wpAny (model prog w) A (Builtin.SmallTypes.nextOf (.ref it)) Q E s := by
  obtain ⟨ob, e1, e2, e3⟩ := id st
  obtain ⟨ot, e4, _, m, e5⟩ := hl
  unfold Builtin.SmallTypes.nextOf
  refine wpAny_bind (wpAny_callSpecial?_slot (name := Str.ofString "__next__") st.typeIs F.slot_tuple_iterator_next (wpAny_call_entry F.slot_tuple_iterator_next st.typeIs F.entry_tuple_iterator_next ?_ (F.args_tuple_iterator_next_1 _)))
  refine wpAny_bind (m := field (.ref it) 0) (wpAny_field e1 e3 (x := .ref t) rfl ?_)
  show wpAny _ _ (if (Value.ref t == Value.none) = true then _ else (field (.ref it) 1 >>= _)) _ _ s
  rw [if_neg (show ¬ (Value.ref t == Value.none) = true from (fun z => nomatch z))]
  refine wpAny_bind (wpAny_field e1 e3 (x := .int i 0) rfl (wpAny_bind (m := seqItems? (.ref t)) (wpAny_seqItems e4 e5 ?_)))
  simp only [Int.toNat_natCast, hx]
  refine wpAny_bind (wpAny_setField e1 e3 (by simp) (wpAny_pure ⟨x, rfl, wpAny_pure (q _ ⟨_, Heap.get?_update_self _ e1 (Obj.isFreed_of_fields (Obj.data_mapFields e3 _)), (Obj.cls_mapFields ..).trans e2, ?_⟩ (Heap.SameBut.update ..))⟩))
  rw [Obj.data_mapFields e3]
  simp [rawInt]
theorem tupStop {it t : Addr} {i : Nat} {its : Array Value} {Q : Value → Shared → Prop} (hh : A.handled = none) (st : s.heap.IsTupleIter it t i) (hl : s.heap.IsTuple t its) (hx : its[i]? = none)
    (q : ∀ g e, Heap.ExtBut it s.heap g → (∃ o, g.get? e = some o ∧ o.cls = .type "StopIteration") → E (.ref e) { s with heap := g }) : wpAny (model prog w) A (Builtin.SmallTypes.nextOf (.ref it)) Q E s := by
  obtain ⟨ob, e1, e2, e3⟩ := id st
  obtain ⟨ot, e4, _, m, e5⟩ := hl
  unfold Builtin.SmallTypes.nextOf
  refine wpAny_bind (wpAny_callSpecial?_slot (name := Str.ofString "__next__") st.typeIs F.slot_tuple_iterator_next (wpAny_call_entry F.slot_tuple_iterator_next st.typeIs F.entry_tuple_iterator_next ?_ (F.args_tuple_iterator_next_1 _)))
  refine wpAny_bind (m := field (.ref it) 0) (wpAny_field e1 e3 (x := .ref t) rfl ?_)
  show wpAny _ _ (if (Value.ref t == Value.none) = true then _ else (field (.ref it) 1 >>= _)) _ _ s
  rw [if_neg (show ¬ (Value.ref t == Value.none) = true from (fun z => nomatch z))]
  refine wpAny_bind (wpAny_field e1 e3 (x := .int i 0) rfl (wpAny_bind (m := seqItems? (.ref t)) (wpAny_seqItems e4 e5 ?_)))
  simp only [Int.toNat_natCast, hx]
  refine wpAny_bind (wpAny_rule (wpAny_bind (wpAny_setField e1 e3 (by simp) (wpAny_bind (m := newExc (.type "StopIteration") []) ?_))))
  simp only [newExc, newTuple]
  refine wpAny_bind (wpAny_newObj_type (wpAny_bind (m := firstArgMember _ _) (wpAny_of_eq (a := Value.none) (by first | rfl | (simp only [firstArgMember]; rfl)) (wpAny_newObj_type ?_ (by size_fits)))) (by size_fits))
  simp only [raiseNew]
  refine wpAny_bind (wpAny_handled ?_)
  first | rw [show A.in1.handled = none from hh] | rw [hh]
  exact wpAny_bind (wpAny_pure (wpAny_throw (q _ _ (((Heap.SameBut.update ..).extBut.push _).push _) ⟨_, Heap.get?_push_size _ rfl, rfl⟩)))
theorem drawsTup (hh : A.handled = none) (it t : Addr) (hne : t ≠ it) (its : Array Value) :
    Draws prog w A it [it, t] its.size (fun i v => its[i]? = some v) (fun i h => h.IsTupleIter it t i ∧ h.IsTuple t its) where
  live := fun _ _ z => let ⟨o, e, _⟩ := z.1; ⟨o, e⟩
  frame := fun _ _ _ z k => ⟨z.1.at fun o e => k it (by simp) o e, z.2.at fun o e => k t (by simp) o e⟩
  item := fun i s Q E hi z k => tupNext z.1 z.2 (x := its[i]) (by simp [hi]) fun g z' sb => k _ g s.toks (by simp [hi]) ⟨z', z.2.extBut sb.extBut hne⟩ sb
  done := fun s Q E z k => tupStop hh z.1 z.2 (by simp) k
/-- the objects of a zip are apart -/
structure Ap (z TI TO i1 i2 : Addr) (f1 f2 : List Addr) : Prop where
  a1 : ∀ b ∈ f1, b ≠ z ∧ b ≠ TO ∧ b ≠ i2
  a2 : ∀ b ∈ f2, b ≠ z ∧ b ≠ TO ∧ b ≠ i1
  m1 : i1 ∈ f1
  m2 : i2 ∈ f2
  tz : TI ≠ z
  tO : TI ≠ TO
  t1 : TI ≠ i1
  t2 : TI ≠ i2
  oz : TO ≠ z
section
variable {z TI TO i1 i2 : Addr} {f1 f2 : List Addr} {n1 n2 k : Nat} {P1 P2 : Nat → Value → Prop} {S1 S2 : Nat → Heap → Prop} {a b : Value}
theorem zipNext {Q : Value → Shared → Prop} (D1 : Draws prog w A i1 f1 n1 P1 S1) (D2 : Draws prog w A i2 f2 n2 P2 S2) (ap : Ap z TI TO i1 i2 f1 f2) (hz : IsZip s.heap z TI TO .none) (hI : IsPair s.heap TI (.ref i1) (.ref i2)) (hO : IsPair s.heap TO a b)
    (h1 : S1 k s.heap) (h2 : S2 k s.heap) (l1 : k < n1) (l2 : k < n2)
    (q : ∀ x y T g t', P1 k x → P2 k y → T = s.heap.objs.size → IsZip g z TI TO (rawInt T) → IsPair g TO x y → S1 (k + 1) g → S2 (k + 1) g → IsPair g T x y → (∀ c o, c ≠ z → c ≠ TO → c ≠ i1 → c ≠ i2 → s.heap.get? c = some o → g.get? c = some o) → Q (.ref T) { s with heap := g, toks := t' }) :
    wpAny (model prog w) A (Builtin.«zip.__next__» ⟨[.ref z], []⟩) (fun fin s' => ∃ v, fin = .done (.ret v) ∧ Q v s') E s := by
  have z1 := ap.a1 i1 ap.m1
  have z2 := ap.a2 i2 ap.m2
  refine wpAny_bind (m := field (.ref z) 2) (wpAny_field hz rfl (x := .bool false) rfl (wpAny_bind (m := field (.ref z) 3) (wpAny_field hz rfl (x := .ref TI) rfl (wpAny_bind (wpAny_seqItems hI rfl (wpAny_bind (m := Builtin.SmallTypes.ownedTupleIsFree (.ref z)) ?_))))))
  unfold Builtin.SmallTypes.ownedTupleIsFree
  refine wpAny_bind (wpAny_field hz rfl (x := .none) rfl (wpAny_pure ?_))
  simp only [if_true]
  refine wpAny_bind (wpAny_rule (wpAny_bind (wpAny_field hz rfl (x := .ref TO) rfl (wpAny_bind (wpAny_setField_rec hz (by simp) fun ga ca sa => wpAny_bind ?_)))))
  replace ca : IsZip ga z TI TO .ellipsis := ca
  have ka : ∀ c o, c ≠ z → s.heap.get? c = some o → ga.get? c = some o := fun c o n e => sa.extBut _ _ n e
  simp only [List.zipIdx_cons, List.zipIdx_nil, List.forIn_cons, List.forIn_nil]
  -- the first one
  refine wpAny_bind (wpAny_bind (wpAny_onRaise (wpAny_bind (m := Builtin.SmallTypes.nextOf (.ref i1)) (D1.item k _ _ _ l1 (D1.frame _ _ _ h1 fun c hc o e => ka c o (ap.a1 c hc).1 e) fun x gb tb px sb cb => wpAny_pure ?_))))
  have kb : ∀ c o, c ≠ z → c ≠ i1 → s.heap.get? c = some o → gb.get? c = some o := fun c o n n' e => cb.extBut _ _ n' (ka c o n e)
  have hOb : IsPair gb TO a b := kb _ _ ap.oz (fun e => z1.2.1 e.symm) hO
  refine wpAny_bind (wpAny_seqItems hOb rfl (wpAny_bind (wpAny_updateSeq_pair hOb fun gc hOc cc => wpAny_bind (wpAny_letGo (wpAny_pure ?_)))))
  replace hOc : IsPair gc TO x b := hOc
  have kc : ∀ c o, c ≠ z → c ≠ i1 → c ≠ TO → s.heap.get? c = some o → gc.get? c = some o := fun c o n n' n2 e => cc.extBut _ _ n2 (kb c o n n' e)
  have sc1 : S1 (k + 1) gc := D1.frame _ _ _ sb fun c hc o e => cc.extBut _ _ (ap.a1 c hc).2.1 e
  -- the second one
  refine wpAny_bind (wpAny_bind (wpAny_onRaise (wpAny_bind (m := Builtin.SmallTypes.nextOf (.ref i2)) (D2.item k _ _ _ l2 (D2.frame _ _ _ h2 fun c hc o e => kc c o (ap.a2 c hc).1 (ap.a2 c hc).2.2 (ap.a2 c hc).2.1 e) fun y gd td py sd cd => wpAny_pure ?_))))
  have hOd : IsPair gd TO x b := cd.extBut _ _ (fun e => z2.2.1 e.symm) hOc
  refine wpAny_bind (wpAny_seqItems hOd rfl (wpAny_bind (wpAny_updateSeq_pair hOd fun ge hOe ce => wpAny_bind (wpAny_letGo (wpAny_pure (wpAny_pure ?_))))))
  replace hOe : IsPair ge TO x y := hOe
  have ke : ∀ c o, c ≠ z → c ≠ TO → c ≠ i1 → c ≠ i2 → s.heap.get? c = some o → ge.get? c = some o := fun c o n n1 n2 n3 e => ce.extBut _ _ n1 (cd.extBut _ _ n3 (kc c o n n2 n1 e))
  have hze : IsZip ge z TI TO .ellipsis := ce.extBut _ _ (Ne.symm ap.oz) (cd.extBut _ _ (Ne.symm z2.1) (cc.extBut _ _ (Ne.symm ap.oz) (cb.extBut _ _ (Ne.symm z1.1) ca)))
  have se1 : S1 (k + 1) ge := D1.frame _ _ _ sc1 fun c hc o e => ce.extBut _ _ (ap.a1 c hc).2.1 (cd.extBut _ _ (ap.a1 c hc).2.2 e)
  have se2 : S2 (k + 1) ge := D2.frame _ _ _ sd fun c hc o e => ce.extBut _ _ (ap.a2 c hc).2.1 e
  have szs : s.heap.objs.size = ge.objs.size := by rw [ce.1, cd.1, cc.1, cb.1, sa.1]
  refine wpAny_bind (wpAny_seqItems hOe rfl (wpAny_bind (wpAny_newTuple (wpAny_bind (m := Builtin.SmallTypes.ownedTupleHandOut (.ref z) (.ref ge.objs.size)) ?_))))
  unfold Builtin.SmallTypes.ownedTupleHandOut
  have zl : z < ge.objs.size := Heap.lt_size hze
  refine wpAny_bind (wpAny_setField_rec (show IsZip (ge.push { cls := .type "tuple", data := .seq #[x, y] }) z TI TO .ellipsis from Heap.get?_push_of_some _ hze) (by simp) fun gf cf sf => ?_)
  replace cf : IsZip gf z TI TO (rawInt ge.objs.size) := cf
  refine wpAny_setField_rec cf (by simp) fun gg cg sg => wpAny_pure ⟨_, rfl, ?_⟩
  replace cg : IsZip gg z TI TO (rawInt ge.objs.size) := cg
  have up : ∀ c o, c ≠ z → ge.get? c = some o → gg.get? c = some o := fun c o n e => sg.extBut _ _ n (sf.extBut _ _ n (Heap.get?_push_of_some _ e))
  have hT : IsPair gg ge.objs.size x y := sg.extBut _ _ (Nat.ne_of_gt zl) (sf.extBut _ _ (Nat.ne_of_gt zl) (Heap.get?_push_size _ rfl))
  exact q x y ge.objs.size gg _ px py szs.symm cg (up _ _ ap.oz hOe) (D1.frame _ _ _ se1 fun c hc o e => up c o (ap.a1 c hc).1 e) (D2.frame _ _ _ se2 fun c hc o e => up c o (ap.a2 c hc).1 e) hT fun c o n n1 n2 n3 e => up c o n (ke c o n n1 n2 n3 e)
theorem zipStop {Q : Fin → Shared → Prop} (D1 : Draws prog w A i1 f1 n1 P1 S1) (D2 : Draws prog w A i2 f2 n2 P2 S2) (ap : Ap z TI TO i1 i2 f1 f2) (hz : IsZip s.heap z TI TO .none) (hI : IsPair s.heap TI (.ref i1) (.ref i2)) (hO : IsPair s.heap TO a b)
    (h1 : S1 k s.heap) (h2 : S2 k s.heap) (hk : k = n1 ∨ (k < n1 ∧ k = n2))
    (q : ∀ g e t', (∀ c o, c ≠ z → c ≠ TO → c ≠ i1 → c ≠ i2 → s.heap.get? c = some o → g.get? c = some o) → (∃ o, g.get? e = some o ∧ o.cls = .type "StopIteration") → E (.ref e) { s with heap := g, toks := t' }) :
    wpAny (model prog w) A (Builtin.«zip.__next__» ⟨[.ref z], []⟩) Q E s := by
  have z1 := ap.a1 i1 ap.m1
  have z2 := ap.a2 i2 ap.m2
  refine wpAny_bind (m := field (.ref z) 2) (wpAny_field hz rfl (x := .bool false) rfl (wpAny_bind (m := field (.ref z) 3) (wpAny_field hz rfl (x := .ref TI) rfl (wpAny_bind (wpAny_seqItems hI rfl (wpAny_bind (m := Builtin.SmallTypes.ownedTupleIsFree (.ref z)) ?_))))))
  unfold Builtin.SmallTypes.ownedTupleIsFree
  refine wpAny_bind (wpAny_field hz rfl (x := .none) rfl (wpAny_pure ?_))
  simp only [if_true]
  refine wpAny_bind (wpAny_rule (wpAny_bind (wpAny_field hz rfl (x := .ref TO) rfl (wpAny_bind (wpAny_setField_rec hz (by simp) fun ga ca sa => wpAny_bind ?_)))))
  replace ca : IsZip ga z TI TO .ellipsis := ca
  have ka : ∀ c o, c ≠ z → s.heap.get? c = some o → ga.get? c = some o := fun c o n e => sa.extBut _ _ n e
  simp only [List.zipIdx_cons, List.zipIdx_nil, List.forIn_cons, List.forIn_nil]
  rcases hk with e | ⟨l1, e⟩
  · subst e
    refine wpAny_bind (wpAny_bind (wpAny_onRaise (wpAny_bind (m := Builtin.SmallTypes.nextOf (.ref i1)) (D1.done _ _ _ (D1.frame _ _ _ h1 fun c hc o e => ka c o (ap.a1 c hc).1 e) fun gb e cb he => ?_))))
    obtain ⟨oe, h3, h4⟩ := he
    have hzb : IsZip gb z TI TO .ellipsis := cb _ _ (Ne.symm z1.1) ca
    have hez : e ≠ z := fun x => by rw [x, hzb] at h3; cases h3; simp at h4
    exact wpAny_setField_rec hzb (by simp) fun gc _ cc => q gc e s.toks (fun c o n _ n2 _ x => cc.extBut _ _ n (cb _ _ n2 (ka c o n x))) ⟨oe, cc.extBut _ _ hez h3, h4⟩
  · subst e
    refine wpAny_bind (wpAny_bind (wpAny_onRaise (wpAny_bind (m := Builtin.SmallTypes.nextOf (.ref i1)) (D1.item k _ _ _ l1 (D1.frame _ _ _ h1 fun c hc o e => ka c o (ap.a1 c hc).1 e) fun x gb tb px sb cb => wpAny_pure ?_))))
    have kb : ∀ c o, c ≠ z → c ≠ i1 → s.heap.get? c = some o → gb.get? c = some o := fun c o n n' e => cb.extBut _ _ n' (ka c o n e)
    have hOb : IsPair gb TO a b := kb _ _ ap.oz (fun e => z1.2.1 e.symm) hO
    refine wpAny_bind (wpAny_seqItems hOb rfl (wpAny_bind (wpAny_updateSeq_pair hOb fun gc hOc cc => wpAny_bind (wpAny_letGo (wpAny_pure ?_)))))
    have kc : ∀ c o, c ≠ z → c ≠ i1 → c ≠ TO → s.heap.get? c = some o → gc.get? c = some o := fun c o n n' n2 e => cc.extBut _ _ n2 (kb c o n n' e)
    refine wpAny_bind (wpAny_bind (wpAny_onRaise (wpAny_bind (m := Builtin.SmallTypes.nextOf (.ref i2)) (D2.done _ _ _ (D2.frame _ _ _ h2 fun c hc o e => kc c o (ap.a2 c hc).1 (ap.a2 c hc).2.2 (ap.a2 c hc).2.1 e) fun gd e cd he => ?_))))
    obtain ⟨oe, h3, h4⟩ := he
    have hzd : IsZip gd z TI TO .ellipsis := cd _ _ (Ne.symm z2.1) (cc.extBut _ _ (Ne.symm ap.oz) (cb.extBut _ _ (Ne.symm z1.1) ca))
    have hez : e ≠ z := fun x => by rw [x, hzd] at h3; cases h3; simp at h4
    exact wpAny_setField_rec hzd (by simp) fun ge _ ce => q ge e tb (fun c o n n1 n2 n3 x => ce.extBut _ _ n (cd _ _ n3 (kc c o n n2 n1 x))) ⟨oe, ce.extBut _ _ hez h3, h4⟩
theorem zipPy {Q : Option Value → Shared → Prop} (D1 : Draws prog w A.in1 i1 f1 n1 P1 S1) (D2 : Draws prog w A.in1 i2 f2 n2 P2 S2) (ap : Ap z TI TO i1 i2 f1 f2) (hz : IsZip s.heap z TI TO .none) (hI : IsPair s.heap TI (.ref i1) (.ref i2)) (hO : IsPair s.heap TO a b)
    (h1 : S1 k s.heap) (h2 : S2 k s.heap) (l1 : k < n1) (l2 : k < n2)
    (q : ∀ x y T g t', P1 k x → P2 k y → T = s.heap.objs.size → IsZip g z TI TO (rawInt T) → IsPair g TO x y → S1 (k + 1) g → S2 (k + 1) g → IsPair g T x y → (∀ c o, c ≠ z → c ≠ TO → c ≠ i1 → c ≠ i2 → s.heap.get? c = some o → g.get? c = some o) → Q (some (.ref T)) { s with heap := g, toks := t' }) :
    wpAny (model prog w) A (pyNext (.ref z)) Q E s := by
  have ty : s.TypeIs (.ref z) "zip" := ⟨_, hz, rfl⟩
  unfold pyNext
  exact wpAny_bind (wpAny_attempt (wpAny_callSpecial?_slot (name := Str.ofString "__next__") ty F.slot_zip_next (wpAny_call_entry F.slot_zip_next ty F.entry_zip_next (zipNext D1 D2 ap hz hI hO h1 h2 l1 l2 fun x y T g t' c1 c2 c3 c4 c5 c6 c7 c8 c9 => wpAny_pure (q x y T g t' c1 c2 c3 c4 c5 c6 c7 c8 c9)) (F.args_zip_next_1 _))))
theorem zipPyStop {Q : Option Value → Shared → Prop} (D1 : Draws prog w A.in1 i1 f1 n1 P1 S1) (D2 : Draws prog w A.in1 i2 f2 n2 P2 S2) (ap : Ap z TI TO i1 i2 f1 f2) (hz : IsZip s.heap z TI TO .none) (hI : IsPair s.heap TI (.ref i1) (.ref i2)) (hO : IsPair s.heap TO a b)
    (h1 : S1 k s.heap) (h2 : S2 k s.heap) (hk : k = n1 ∨ (k < n1 ∧ k = n2))
    (q : ∀ g t', (∀ c o, c ≠ z → c ≠ TO → c ≠ i1 → c ≠ i2 → s.heap.get? c = some o → g.get? c = some o) → Q none { s with heap := g, toks := t' }) : wpAny (model prog w) A (pyNext (.ref z)) Q E s := by
  have ty : s.TypeIs (.ref z) "zip" := ⟨_, hz, rfl⟩
  unfold pyNext
  refine wpAny_bind (wpAny_attempt (wpAny_callSpecial?_slot (name := Str.ofString "__next__") ty F.slot_zip_next (wpAny_call_entry F.slot_zip_next ty F.entry_zip_next (zipStop D1 D2 ap hz hI hO h1 h2 hk fun g e t' kp he => ?_) (F.args_zip_next_1 _))))
  obtain ⟨o, h3, h4⟩ := he
  exact wpAny_bind (wpAny_isInstance (T := "StopIteration") (b := true) ⟨o, h3, h4⟩ isSubtype_stop (wpAny_pure (q _ _ kp)))
end
end
/-- the i-th items of a tuple and of a list, in a new tuple -/
def Itz (K : PySem.W.Frag) (a b : Addr) : It :=
  ⟨fun i H => ∃ xs ys, SqT K H a xs ∧ SqL K H b ys ∧ i < xs.length ∧ i < ys.length,
   fun i H v H' => ∃ T, H T = none ∧ v = .ref T ∧ ∀ xs ys, SqT K H a xs → SqL K H b ys → ∃ x y, xs[i]? = some x ∧ ys[i]? = some y ∧ H' = upd H T (.tup [x, y]),
   fun i H => ∃ xs ys, SqT K H a xs ∧ SqL K H b ys ∧ (i = xs.length ∨ (i < xs.length ∧ i = ys.length))⟩
theorem Inv.turnedL {X : Cx} {pins : List (Addr × Obj)} {σ : St} {H : Hp} {s : Shared} {h' : Heap} {t' : Nat} {ch : List Addr} (I : Inv X pins σ H s) (k : ∀ b o, b ∉ ch → s.heap.get? b = some o → h'.get? b = some o) (hf : ∀ b ∈ ch, FpOk X pins H b) : Inv X pins σ H { s with heap := h', toks := t' } := by
  have nit : ∀ b u, H b = some u → b ∉ ch := fun b u e z => by rw [(hf b z).1] at e; cases e
  refine I.step (g' := s.gens) (d' := s.drawn) (ch := ch) (fun b hb => ⟨(hf b hb).2.2.2.1, (hf b hb).2.1, (hf b hb).2.2.2.2.1, (hf b hb).2.2.2.2.2⟩) (fun b o _ _ hc e _ => k b o hc e) (fun b o _ _ hc e _ => ⟨o.slots, k b o hc e⟩) (fun _ _ _ _ n => n)
    (fun b o hc e => ⟨o, k b o hc e⟩) (fun _ _ e => e) (fun _ _ _ e => e) (fun b ps e => ⟨#[], by rw [e]; simp⟩) (fun m hm => ?_) (fun b u e => ?_) I.bare
  · obtain ⟨o, es, ep, ho, r⟩ := hm
    exact ⟨o, es, ep, k _ o (fun z => (hf _ z).2.1 rfl) ho, r⟩
  · refine (I.hok b u e).stay (fun c v hc q => k c v ?_ q) (fun _ q => q) fun _ _ q => q
    rcases hc with z | z
    · rw [z]; exact nit b u e
    · exact nit c _ z
/-- a zip's objects, laid one behind another from n on -/
def ZipSt (n a b : Nat) (i : Nat) (h : Heap) : Prop := IsZip h (n + 4) (n + 2) (n + 3) .none ∧ IsPair h (n + 2) (.ref n) (.ref (n + 1)) ∧ (∃ x y, IsPair h (n + 3) x y) ∧ h.IsTupleIter n a i ∧ h.IsListIter (n + 1) b i
theorem ap_new {n a b : Nat} (ha : a < n) (hb : b < n) : Ap (n + 4) (n + 2) (n + 3) n (n + 1) [n, a] [n + 1, b] where
  a1 := fun c hc => by
    have hc' : c = n ∨ c = a := by simpa using hc
    rcases hc' with e | e <;> (subst e; exact ⟨by show (_ : Nat) ≠ _; omega, by show (_ : Nat) ≠ _; omega, by show (_ : Nat) ≠ _; omega⟩)
  a2 := fun c hc => by
    have hc' : c = n + 1 ∨ c = b := by simpa using hc
    rcases hc' with e | e <;> (subst e; exact ⟨by show (_ : Nat) ≠ _; omega, by show (_ : Nat) ≠ _; omega, by show (_ : Nat) ≠ _; omega⟩)
  m1 := by simp
  m2 := by simp
  tz := by show (_ : Nat) ≠ _; omega
  tO := by show (_ : Nat) ≠ _; omega
  t1 := by show (_ : Nat) ≠ _; omega
  t2 := by show (_ : Nat) ≠ _; omega
  oz := by show (_ : Nat) ≠ _; omega
abbrev zo1 (h : Heap) (a : Addr) : Heap := h.push { cls := .type "tuple_iterator", data := .fields #[.ref a, .int 0 0] }
abbrev zo2 (h : Heap) (a b : Addr) : Heap := (zo1 h a).push { cls := .type "list_iterator", data := .fields #[.ref b, .int 0 0] }
abbrev zo3 (h : Heap) (a b : Addr) : Heap := (zo2 h a b).push { cls := .type "tuple", data := .seq #[.ref h.objs.size, .ref (zo1 h a).objs.size] }
abbrev zo4 (h : Heap) (a b : Addr) : Heap := (zo3 h a b).push { cls := .type "tuple", data := .seq #[.none, .none] }
abbrev zo5 (h : Heap) (a b : Addr) : Heap := (zo4 h a b).push { cls := .type "zip", data := .fields #[.none, .bool false, .bool false, .ref (zo2 h a b).objs.size, .ref (zo3 h a b).objs.size] }
def iZip (K : PySem.W.Frag) (ta : TA) : TI := fun σ H R => ta σ H fun vs H1 => ∃ a b, vs = [.ref a, .ref b] ∧ (∃ xs, SqT K H1 a xs) ∧ (∃ ys, SqL K H1 b ys) ∧ R (Itz K a b) H1
theorem bt_zip : bootBuiltins "zip" = some (.type "zip") := by decide +kernel
end L2

namespace L2
open PySem PySem.Spec PyProof.Rows

/-! ### lists of pairs as tables -/
section
variable {κ : Type} [DecidableEq κ]
def valV (kvs : List (κ × V)) (k : κ) : Option V := (kvs.find? fun kv => decide (kv.1 = k)).map (·.2)
/-- in its place, or at the end -/
def putK (kvs : List (κ × V)) (k : κ) (v : V) : List (κ × V) :=
  if (kvs.any fun kv => decide (kv.1 = k)) = true then kvs.map (fun kv => if kv.1 = k then (kv.1, v) else kv) else kvs ++ [(k, v)]
def dropK (kvs : List (κ × V)) (k : κ) : List (κ × V) := kvs.filter fun kv => decide (kv.1 ≠ k)

end


/-! ### a tracked dict, its keys ints and texts or tuples of these -/
/-- raw entries of a dict with tuple keys -/
abbrev KT (H : Hp) : List (List Key × V) → List (List Key × Addr × Value) → Prop := Paired fun p q => p.1 = q.1 ∧ H q.2.1 = some (.tup (p.1.map kV)) ∧ RelV p.2 q.2.2
section
variable {P : Program} {w : World} {H : Hp} {h : Heap} {a : Addr}
end

/-- what the dict at a holds at the key y -/
def DGet (H : Hp) (a : Addr) (y : V) (r : Option V) : Prop :=
  (∃ kvs k, Rd H a (.dK kvs) ∧ y = kV k ∧ r = valV kvs k) ∨ ∃ kvs k b, Rd H a (.dT kvs) ∧ y = .ref b ∧ H b = some (.tup (k.map kV)) ∧ r = valV kvs k
/-- the heap behind a[y] = v -/
def DPut (H : Hp) (a : Addr) (y v : V) (H' : Hp) : Prop :=
  (∃ kvs k, H a = some (.dK kvs) ∧ y = kV k ∧ kvs.length < sizeLine ∧ H' = upd H a (.dK (putK kvs k v))) ∨
  ∃ kvs k b, H a = some (.dT kvs) ∧ y = .ref b ∧ H b = some (.tup (k.map kV)) ∧ kvs.length < sizeLine ∧ H' = upd H a (.dT (putK kvs k v))
section
variable {X : Cx} {pins : List (Addr × Obj)} {σ : St} {H : Hp} {s : Shared} {a : Addr} {y v : V} {u r : Value} {o : Option V} {A : Around} {E : Value → Shared → Prop}

end

section
variable {X : Cx} {pins : List (Addr × Obj)} {σ : St} {H : Hp} {s : Shared} {a : Addr} {kvs : List (Key × V)} {k : Key} {u : Value} {A : Around} {E : Value → Shared → Prop}
end


/-! ### readings and rules -/
/-- the element of a subscription, not a slice -/
def NoSl (i : Expr) : Prop := ∀ ov iv, subscripted i false ov iv = operate [ov, iv] (getItem ov iv)
/-- d[y] -/
def tDGet (td ty : TE) : TE := fun σ H Q => td σ H fun x H1 => ty σ H1 fun y H2 => ∃ a v, x = .ref a ∧ DGet H2 a y (some v) ∧ Q v H2
/-- y in d, y not in d -/
def tDIn (ty td : TE) : TE := fun σ H Q => ty σ H fun y H1 => td σ H1 fun x H2 => ∃ a o, x = .ref a ∧ DGet H2 a y o ∧ Q (.bl o.isSome) H2
def tDNotIn (ty td : TE) : TE := fun σ H Q => ty σ H fun y H1 => td σ H1 fun x H2 => ∃ a o, x = .ref a ∧ DGet H2 a y o ∧ Q (.bl (!o.isSome)) H2
/-- d[y] = v -/
def sDPut (td ty tv : TE) : TS := fun D σ H => tv σ H fun v H1 => td σ H1 fun x H2 => ty σ H2 fun y H3 => ∃ a H4, x = .ref a ∧ DPut H3 a y v H4 ∧ D.nx σ H4
/-- d[y] op= v -/
def sDAug (td ty tv : TE) (rd : V → V → Hp → VK → Prop) : TS := fun D σ H => td σ H fun x H1 => ty σ H1 fun y H2 => ∃ a v, x = .ref a ∧ DGet H2 a y (some v) ∧
  tv σ H2 fun y2 H3 => rd v y2 H3 fun z H4 => ∃ H5, DPut H4 a y z H5 ∧ D.nx σ H5
/-- del d[y] -/
def sDDel (td ty : TE) : TS := fun D σ H => td σ H fun x H1 => ty σ H1 fun y H2 => ∃ a kvs k, x = .ref a ∧ H2 a = some (.dK kvs) ∧ y = kV k ∧ (valV kvs k).isSome = true ∧ D.nx σ (upd H2 a (.dK (dropK kvs k)))

section
variable {X : Cx} {o i e value : Expr} {pos pos' tpos : Pos} {td ty tv : TE}
end


/-! ### displays -/
/-- {}, to be a dict of the kind that is wanted -/
def tDNewK : TE := fun _ H Q => ∀ p, H p = none → Q (.ref p) (upd H p (.dK []))
def tDNewT : TE := fun _ H Q => ∀ p, H p = none → Q (.ref p) (upd H p (.dT []))
section
variable {X : Cx} {pos : Pos}
end

/-- the pairs of a display, from the left -/
def tPairs : List (TE × TE) → St → Hp → (List (V × V) → Hp → Prop) → Prop
  | [], _, H, Q => Q [] H
  | (tk, tv) :: r, σ, H, Q => tk σ H fun x H1 => tv σ H1 fun y H2 => tPairs r σ H2 fun ps H3 => Q ((x, y) :: ps) H3
abbrev VV : List (V × V) → List (Value × Value) → Prop := Paired fun p q => RelV p.1 q.1 ∧ RelV p.2 q.2
def PPs (X : Cx) (pos : Pos) (keys : List (Option Expr)) (values : List Expr) (trs : List (TE × TE)) : Prop :=
  ∀ (pins : List (Addr × Obj)) (s : Shared) (σ : St) (H : Hp) (Q : List (V × V) → Hp → Prop), Inv X pins σ H s → tPairs trs σ H Q →
    wpAny (model X.prog X.w) X.A (evalPairs (pairTrees keys values X.env pos)) (fun vs s' => ∃ ps H', Inv X pins σ H' s' ∧ VV ps vs ∧ Q ps H') X.xe s
def mergeK (kvs more : List (Key × V)) : List (Key × V) := more.foldl (fun acc kv => putK acc kv.1 kv.2) kvs
/-- {k: v, ..} with keys ints and texts; the new dict stands empty while the pairs are made -/
def tDisp (trs : List (TE × TE)) : TE := fun σ H Q => ∀ p, H p = none → tPairs trs σ (upd H p (.dK [])) fun ps H2 => H2 p = some (.dK []) ∧ ∃ kvs : List (Key × V), ps = kvs.map (fun kv => (kV kv.1, kv.2)) ∧ kvs.length ≤ 15 ∧ Q (.ref p) (upd H2 p (.dK (mergeK [] kvs)))
/-! ### methods -/
/-- a method call o.m(e) of a built-in, with one argument: what must be seen of the text -/
structure M1 (X : Cx) (o : Expr) (m : Str) (apos : Pos) (e : Expr) (cpos : Pos) : Prop where
  base : attributeBase o m X.env (eval o X.env) = eval o X.env
  few : ((backTo cpos (starEach [e] X.env)).all (fun x => !x.1) && (backToKw cpos (keywordEach [] X.env)).all (fun x => x.1.isSome)
    && decide (([e] : List Expr).length + ([] : List Keyword).length + (if ([] : List Keyword).isEmpty then 0 else 1) < 30)) = true
  line : (apos.endLine == cpos.line) = true
  trees : backTo cpos (starEach [e] X.env) = [(false, eval e X.env)]
structure M2 (X : Cx) (o : Expr) (m : Str) (apos : Pos) (e f : Expr) (cpos : Pos) : Prop where
  base : attributeBase o m X.env (eval o X.env) = eval o X.env
  few : ((backTo cpos (starEach [e, f] X.env)).all (fun x => !x.1) && (backToKw cpos (keywordEach [] X.env)).all (fun x => x.1.isSome)
    && decide (([e, f] : List Expr).length + ([] : List Keyword).length + (if ([] : List Keyword).isEmpty then 0 else 1) < 30)) = true
  line : (apos.endLine == cpos.line) = true
  trees : backTo cpos (starEach [e, f] X.env) = [(false, eval e X.env), (false, eval f X.env)]

/-- a is a dict, whatever its keys -/
def IsD (H : Hp) (a : Addr) : Prop := (∃ kvs, Rd H a (.dK kvs)) ∨ ∃ kvs, Rd H a (.dT kvs)
section
variable {X : Cx} {pins : List (Addr × Obj)} {σ : St} {H : Hp} {s : Shared} {a : Addr} {y d : V} {u r : Value} {o : Option V} {A : Around} {E : Value → Shared → Prop}
end

def tDGet1 (td ty : TE) : TE := fun σ H Q => td σ H fun x H1 => ∃ a, x = .ref a ∧ IsD H1 a ∧ ty σ H1 fun y H2 => ∃ o, DGet H2 a y o ∧ Q (o.getD .non) H2
def tDGet2 (td ty tx : TE) : TE := fun σ H Q => td σ H fun x H1 => ∃ a, x = .ref a ∧ IsD H1 a ∧ ty σ H1 fun y H2 => tx σ H2 fun z H3 => ∃ o, DGet H3 a y o ∧ Q (o.getD z) H3
/-- d.pop(k): there; d.pop(k, x): there or not -/
def tDPop1 (td ty : TE) : TE := fun σ H Q => td σ H fun x H1 => ∃ a, x = .ref a ∧ IsD H1 a ∧ ty σ H1 fun y H2 => ∃ kvs k v, H2 a = some (.dK kvs) ∧ y = kV k ∧ valV kvs k = some v ∧ Q v (upd H2 a (.dK (dropK kvs k)))
def tDPop2 (td ty tx : TE) : TE := fun σ H Q => td σ H fun x H1 => ∃ a, x = .ref a ∧ IsD H1 a ∧ ty σ H1 fun y H2 => tx σ H2 fun z H3 => ∃ kvs k, H3 a = some (.dK kvs) ∧ y = kV k ∧
  (∀ v, valV kvs k = some v → Q v (upd H3 a (.dK (dropK kvs k)))) ∧ (valV kvs k = none → Q z H3)
section
variable {X : Cx} {o e f : Expr} {apos cpos : Pos} {td ty tx : TE}
end

/-! ### dict(d): a copy -/
section
variable {X : Cx} {pins : List (Addr × Obj)} {σ : St} {H : Hp} {s : Shared} {a : Addr} {kvs : List (Key × V)} {A : Around} {E : Value → Shared → Prop}
end


section
variable {X : Cx} {pins : List (Addr × Obj)} {σ : St} {H : Hp} {s : Shared} {a : Addr} {y : V} {u : Value} {A : Around} {E : Value → Shared → Prop}
end
end L2

namespace L2
open PySem PySem.Spec PyProof.Rows
/-! ### sorted -/
theorem strsAre_of {ss : List Str} : ∀ {us : List Value}, Vals (ss.map V.str) us → StrsAre us ss := by
  induction ss with
  | nil => intro us r; rw [List.map_nil] at r; cases r; exact .nil
  | cons n ns ih =>
    intro us r
    rw [List.map_cons] at r
    cases r with
    | cons r1 r2 =>
      obtain ⟨t, rfl⟩ := r1
      exact .cons _ _ (ih r2)
theorem vals_of_strs : ∀ {us : List Value} {ss : List Str}, StrsAre us ss → Vals (ss.map V.str) us
  | _, _, .nil => .nil
  | _, _, .cons _ _ h => .cons ⟨_, rfl⟩ (vals_of_strs h)
theorem lst_ok {P : Program} {w : World} {H : Hp} {h : Heap} {a : Addr} {xs : List V} {its : List Value} {e : Nat} (hv : Vals xs its) (hz : xs.length ≤ sizeLine) (ho : h.get? a = some (seqObj "list" its.toArray e)) : ObjOk P w H h a (.lst xs) := ⟨hz, its, e, hv, ho⟩
section
variable {X : Cx}
def rSortS (K : PySem.W.Frag) : List V → Hp → VK → Prop := fun xs H Q => ∃ a, ∃ ss : List Str, xs = [.ref a] ∧ SqL K H a (ss.map V.str) ∧ ss.length < 64 ∧ ∀ (p : Addr) (ss' : List Str), ss'.Perm ss → sortedS ss' = true → H p = none → Q (.ref p) (upd H p (.lst (ss'.map V.str)))
theorem call_sortS : CallR X (.builtin "sorted") (rSortS X.K) := by
  intro pins s σ H xs us Q I r h
  obtain ⟨a, ss, rfl, hq, h64, q⟩ := h
  obtain ⟨u, rfl, rx⟩ := vals1 r
  cases rx
  obtain ⟨its, r', pl, hz⟩ := I.list hq
  have hl := r'.length
  rw [List.length_map] at hl
  refine sorted_strs (pl.isList) (strsAre_of r') (by omega) fun out ss' a1 a2 a3 => ?_
  obtain ⟨e, he⟩ := sortedAll_at s.heap its out
  refine ⟨.ref (s.heap.objs.size + 1), _, I.laid (a := s.heap.objs.size + 1) (o := .lst (ss'.map V.str)) (t' := s.toks) (fun _ _ => sortedAll_old) (Nat.le_succ _) (lst_ok (its := out.toList) (e := e) (vals_of_strs a1) ?_ (by rw [Array.toArray_toList]; exact he)), rfl, q _ ss' a2 a3 (I.hok.fresh (Nat.le_succ _))⟩
  rw [List.length_map, a2.length_eq]
  exact sz1000 (by omega)
def rSortI (K : PySem.W.Frag) : List V → Hp → VK → Prop := fun xs H Q => ∃ a, ∃ ns : List Int, xs = [.ref a] ∧ SqL K H a (ns.map V.int) ∧ ns.length < 64 ∧ ∀ (p : Addr) (ns' : List Int), ns'.Perm ns → ns'.Pairwise (· ≤ ·) → H p = none → Q (.ref p) (upd H p (.lst (ns'.map V.int)))
def rSortDS : List V → Hp → VK → Prop := fun xs H Q => ∃ a kvs, ∃ ss : List Str, xs = [.ref a] ∧ H a = some (.dK kvs) ∧ kvs.map (·.1) = ss.map Sum.inr ∧ kvs.length < 64 ∧ ∀ (p : Addr) (ss' : List Str), ss'.Perm ss → sortedS ss' = true → H p = none → Q (.ref p) (upd H p (.lst (ss'.map V.str)))
def rSortDI : List V → Hp → VK → Prop := fun xs H Q => ∃ a kvs, ∃ ns : List Int, xs = [.ref a] ∧ H a = some (.dK kvs) ∧ kvs.map (·.1) = ns.map Sum.inl ∧ kvs.length < 64 ∧ ∀ (p : Addr) (ns' : List Int), ns'.Perm ns → ns'.Pairwise (· ≤ ·) → H p = none → Q (.ref p) (upd H p (.lst (ns'.map V.int)))
end
end L2

namespace L2
open PySem PySem.Spec PyProof.Rows
variable {X : Cx}
/-! ### xs[::-1] of a list -/
def tRev (K : PySem.W.Frag) (te : TE) (tk : TO) : TE := fun σ H Q => te σ H fun x H1 => tk σ H1 fun st H2 => st = some (-1) ∧ ∃ a xs, x = .ref a ∧ SqL K H2 a xs ∧ ∀ p, H2 p = none → Q (.ref p) (upd H2 p (.lst xs.reverse))
/-! ### list(range(a, b)) -/
def tListRng (ta : TA) : TE := fun σ H Q => ta σ H fun vs H1 => ∃ i j : Int, vs = [.int i, .int j] ∧ (-(2 ^ 62) ≤ i ∧ i < 2 ^ 62 ∧ -(2 ^ 62) ≤ j ∧ j < 2 ^ 62) ∧ (j - i).toNat ≤ 1000 ∧ ∀ p, H1 p = none → Q (.ref p) (upd H1 p (.lst (rngV i (j - i).toNat)))
/-! ### list(d.values()) -/
def tListVals (td : TE) : TE := fun σ H Q => td σ H fun x H1 => ∃ a kvs, x = .ref a ∧ H1 a = some (.dK kvs) ∧ ∀ p, H1 p = none → Q (.ref p) (upd H1 p (.lst (kvs.map (·.2))))
end L2

namespace L2
open PySem PySem.Spec PyProof.Rows
/-- the i-th items of a tuple and of a list, in a new tuple -/
def Itz2 (K : PySem.W.Frag) (a b : Addr) : It :=
  ⟨fun i H => ∃ xs ys, SqT K H a xs ∧ SqT K H b ys ∧ i < xs.length ∧ i < ys.length,
   fun i H v H' => ∃ T, H T = none ∧ v = .ref T ∧ ∀ xs ys, SqT K H a xs → SqT K H b ys → ∃ x y, xs[i]? = some x ∧ ys[i]? = some y ∧ H' = upd H T (.tup [x, y]),
   fun i H => ∃ xs ys, SqT K H a xs ∧ SqT K H b ys ∧ (i = xs.length ∨ (i < xs.length ∧ i = ys.length))⟩
/-- a zip's objects, laid one behind another from n on -/
def ZipSt2 (n a b : Nat) (i : Nat) (h : Heap) : Prop := IsZip h (n + 4) (n + 2) (n + 3) .none ∧ IsPair h (n + 2) (.ref n) (.ref (n + 1)) ∧ (∃ x y, IsPair h (n + 3) x y) ∧ h.IsTupleIter n a i ∧ h.IsTupleIter (n + 1) b i
theorem turn_zip2 {P : Program} {w : World} {K : PySem.W.Frag} {es : List Expr} {k1 : Nat} {p1 : Pos} {n a b : Nat} (ha : a < n) (hb : b < n) :
    Turn P w K (.Tuple es k1 p1) (Itz2 K a b) [n + 4, n + 2, n + 3, n, n + 1] (n + 4) (ZipSt2 n a b) where
  mem := by simp
  obj := fun i h st c hc => by
    obtain ⟨c1, c2, ⟨x, y, c3⟩, ⟨o4, d4, _, f4⟩, ⟨o5, d5, _, f5⟩⟩ := st
    have hc' : c = n + 4 ∨ c = n + 2 ∨ c = n + 3 ∨ c = n ∨ c = n + 1 := by simpa using hc
    rcases hc' with e | e | e | e | e
    · subst e; exact ⟨_, c1, fun v z => by cases z⟩
    · subst e; exact ⟨_, c2, fun v z => by cases z⟩
    · subst e; exact ⟨_, c3, fun v z => by cases z⟩
    · subst e; exact ⟨_, d4, fun v z => by rw [f4] at z; cases z⟩
    · subst e; exact ⟨_, d5, fun v z => by rw [f5] at z; cases z⟩
  keep := fun i h h' st k => by
    obtain ⟨c1, c2, ⟨x, y, c3⟩, c4, c5⟩ := st
    exact ⟨k _ (by simp) _ c1, k _ (by simp) _ c2, ⟨x, y, k _ (by simp) _ c3⟩, c4.at fun o e => k _ (by simp) o e, c5.at fun o e => k _ (by simp) o e⟩
  item := by
    intro X hP hw hK hc i pins s σ H E I hf st hg
    subst hP hw hK
    obtain ⟨xs, ys, hx, hy, l1, l2⟩ := hg
    obtain ⟨its, r1, tx, _⟩ := I.tuple hx
    obtain ⟨its', r2, ty, _⟩ := I.tuple hy
    have e1 := r1.length
    have e2 := r2.length
    obtain ⟨c1, c2, ⟨x0, y0, c3⟩, c4, c5⟩ := st
    have hh : X.A.in1.handled = none := I.ok.hd hc
    refine zipPy (drawsTup hh n a (by show (_ : Nat) ≠ _; omega) its.toArray) (drawsTup hh (n + 1) b (by show (_ : Nat) ≠ _; omega) its'.toArray) (ap_new ha hb) c1 c2 c3 ⟨c4, tx⟩ ⟨c5, ty⟩ (by rw [List.size_toArray]; omega) (by rw [List.size_toArray]; omega) fun x y T g t' px py hT cz cO s1 s2 cT kp => ⟨.ref T, rfl, ?_⟩
    subst hT
    refine wpAny_letOwnedTupleGo_zip (s := { s with heap := g, toks := t' }) cz fun g' cz' sb => ?_
    obtain ⟨vx, hvx⟩ : ∃ v, xs[i]? = some v := ⟨_, List.getElem?_eq_getElem l1⟩
    obtain ⟨vy, hvy⟩ : ∃ v, ys[i]? = some v := ⟨_, List.getElem?_eq_getElem l2⟩
    obtain ⟨ux, hux, rx⟩ := r1.get hvx
    obtain ⟨uy, huy, ry⟩ := r2.get hvy
    have ex : x = ux := by
      have : its.toArray[i]? = some x := px
      rw [← Array.getElem?_toList, List.toList_toArray, hux] at this
      exact (Option.some.inj this).symm
    have ey : y = uy := by
      have : its'.toArray[i]? = some y := py
      rw [← Array.getElem?_toList, List.toList_toArray, huy] at this
      exact (Option.some.inj this).symm
    subst ex ey
    have hfr : H s.heap.objs.size = none := I.hok.fresh (Nat.le_refl _)
    have I0 : Inv X pins σ (upd H s.heap.objs.size (.tup [vx, vy])) { s with heap := s.heap.push { cls := .type "tuple", data := .seq #[x, y] }, toks := t' } :=
      I.laid (fun c u q => Heap.get?_push_of_some _ q) (Nat.le_refl _) ⟨by show 2 ≤ sizeLine; decide, [x, y], .cons rx (.cons ry .nil), ⟨_, Heap.get?_push_size s.heap rfl, rfl, _, rfl⟩⟩
    have lz : n + 4 < s.heap.objs.size := Heap.lt_size c1
    have fpn : ∀ c ∈ [n + 4, n + 2, n + 3, n, n + 1], c ≠ s.heap.objs.size := fun c hc' => by
      have hc'' : c = n + 4 ∨ c = n + 2 ∨ c = n + 3 ∨ c = n ∨ c = n + 1 := by simpa using hc'
      rcases hc'' with e | e | e | e | e <;> (subst e; exact Nat.ne_of_lt (by omega))
    have hf0 : ∀ c ∈ [n + 4, n + 2, n + 3, n, n + 1], FpOk X pins (upd H s.heap.objs.size (.tup [vx, vy])) c := fun c hc' => ⟨by rw [upd_ne (fpn c hc')]; exact (hf c hc').1, (hf c hc').2⟩
    have I1 : Inv X pins σ (upd H s.heap.objs.size (.tup [vx, vy])) { s with heap := g', toks := t' } := by
      refine Inv.turnedL (s := { s with heap := s.heap.push { cls := .type "tuple", data := .seq #[x, y] }, toks := t' }) (h' := g') (t' := t') (ch := [n + 4, n + 2, n + 3, n, n + 1]) I0 (fun c o hc' e => ?_) hf0
      replace e : (s.heap.push { cls := .type "tuple", data := .seq #[x, y] }).get? c = some o := e
      have hn : ∀ d ∈ [n + 4, n + 2, n + 3, n, n + 1], c ≠ d := fun d hd z => hc' (by rw [z]; exact hd)
      refine sb.extBut _ _ (hn _ (by simp)) ?_
      by_cases ec : c = s.heap.objs.size
      · rw [ec] at e ⊢
        rw [Heap.get?_push_size s.heap rfl] at e
        cases e
        exact cT
      · rw [Heap.get?_push_ne _ _ _ ec] at e
        exact kp c o (hn _ (by simp)) (hn _ (by simp)) (hn _ (by simp)) (hn _ (by simp)) e
    refine ⟨.ref s.heap.objs.size, _, I1, rfl, ⟨_, hfr, rfl, fun xs' ys' hx' hy' => ⟨vx, vy, by rw [I.tuple_inj hx' hx]; exact hvx, by rw [I.tuple_inj hy' hy]; exact hvy, rfl⟩⟩, ?_, fun c hc' => (hf0 c hc').1⟩
    have nz : ∀ d : Nat, d < n + 4 → d ≠ n + 4 := fun d hd => Nat.ne_of_lt hd
    exact ⟨cz', sb.extBut _ _ (nz _ (by omega)) (kp _ _ (nz _ (by omega)) (by show (_ : Nat) ≠ _; omega) (by show (_ : Nat) ≠ _; omega) (by show (_ : Nat) ≠ _; omega) c2), ⟨x, y, sb.extBut _ _ (nz _ (by omega)) cO⟩, s1.1.extBut sb.extBut (nz _ (by omega)), s2.1.extBut sb.extBut (nz _ (by omega))⟩
  done := by
    intro X hP hw hK hc i pins s σ H E I hf st hg
    subst hP hw hK
    obtain ⟨xs, ys, hx, hy, l⟩ := hg
    obtain ⟨its, r1, tx, _⟩ := I.tuple hx
    obtain ⟨its', r2, ty, _⟩ := I.tuple hy
    have e1 := r1.length
    have e2 := r2.length
    obtain ⟨c1, c2, ⟨x0, y0, c3⟩, c4, c5⟩ := st
    have hh : X.A.in1.handled = none := I.ok.hd hc
    refine zipPyStop (drawsTup hh n a (by show (_ : Nat) ≠ _; omega) its.toArray) (drawsTup hh (n + 1) b (by show (_ : Nat) ≠ _; omega) its'.toArray) (ap_new ha hb) c1 c2 c3 ⟨c4, tx⟩ ⟨c5, ty⟩ (by rw [List.size_toArray, List.size_toArray]; omega) fun g t' kp => ⟨rfl, I.turnedL (ch := [n + 4, n + 2, n + 3, n, n + 1]) (fun c o hc' e => ?_) hf⟩
    have hn : ∀ d ∈ [n + 4, n + 2, n + 3, n, n + 1], c ≠ d := fun d hd z => hc' (by rw [z]; exact hd)
    exact kp c o (hn _ (by simp)) (hn _ (by simp)) (hn _ (by simp)) (hn _ (by simp)) e
  self := fun _ _ _ _ _ st h => wpAny_pyIter_zip st.1 h
abbrev yo1 (h : Heap) (a : Addr) : Heap := h.push { cls := .type "tuple_iterator", data := .fields #[.ref a, .int 0 0] }
abbrev yo2 (h : Heap) (a b : Addr) : Heap := (yo1 h a).push { cls := .type "tuple_iterator", data := .fields #[.ref b, .int 0 0] }
abbrev yo3 (h : Heap) (a b : Addr) : Heap := (yo2 h a b).push { cls := .type "tuple", data := .seq #[.ref h.objs.size, .ref (yo1 h a).objs.size] }
abbrev yo4 (h : Heap) (a b : Addr) : Heap := (yo3 h a b).push { cls := .type "tuple", data := .seq #[.none, .none] }
abbrev yo5 (h : Heap) (a b : Addr) : Heap := (yo4 h a b).push { cls := .type "zip", data := .fields #[.none, .bool false, .bool false, .ref (yo2 h a b).objs.size, .ref (yo3 h a b).objs.size] }
theorem zipMade2 (a b : Addr) (xs ys : Array Value) : Meets (Builtin.«zip.__new__» ⟨[.type "zip", .ref a, .ref b], []⟩) (fun _ R s => s.heap.IsTuple a xs ∧ s.heap.IsTuple b ys ∧ R (.ok (.ret (.ref (yo4 s.heap a b).objs.size))) { s with heap := yo5 s.heap a b }) := .of_wp fun prog w A R s h => by
  obtain ⟨hp, g, d, tk, os⟩ := s
  obtain ⟨q1, q2, q⟩ := h
  have hsub := sub_zip
  have u1 : Heap.IsTuple (Shared.heap ⟨hp, g, d, tk, os⟩) a xs := q1
  have u2 : Heap.IsTuple (Shared.heap ⟨hp.push { cls := .type "tuple_iterator", data := .fields #[.ref a, .int 0 0] }, g, d, tk, os⟩) b ys := Heap.IsTuple.push q2 _
  wp_walk using wpAny_pyIter_tuple u1, wpAny_pyIter_tuple u2
  exact ⟨_, rfl, q⟩
theorem call_zipTT {prog : Program} {w : World} {A : Around} {E : Value → Shared → Prop} {s : Shared} {a b : Addr} {xs ys : Array Value} {Q : Value → Shared → Prop} (q1 : s.heap.IsTuple a xs) (q2 : s.heap.IsTuple b ys)
    (q : ∀ g, ZipSt2 s.heap.objs.size a b 0 g → (∀ c o, s.heap.get? c = some o → g.get? c = some o) → Q (.ref (s.heap.objs.size + 4)) { s with heap := g }) : wpAny (model prog w) A (call (.type "zip") [.ref a, .ref b]) Q E s := by
  refine callType_new F.called_zip (by decide) (F.typeCall_zip_2 _ _) (F.newCall_zip_2 _ _) (fun obj => F.args_object_init_3 obj _ _) F.entry_zip_new (zipMade2 a b xs ys) ⟨q1, q2, ?_⟩
  have z1 : (yo1 s.heap a).objs.size = s.heap.objs.size + 1 := Heap.size_push ..
  have z2 : (yo2 s.heap a b).objs.size = s.heap.objs.size + 2 := by rw [Heap.size_push, z1]
  have z3 : (yo3 s.heap a b).objs.size = s.heap.objs.size + 3 := by rw [Heap.size_push, z2]
  have z4 : (yo4 s.heap a b).objs.size = s.heap.objs.size + 4 := by rw [Heap.size_push, z3]
  have o5 : (yo5 s.heap a b).get? (yo4 s.heap a b).objs.size = some _ := Heap.get?_push_size _ rfl
  have o4 : (yo5 s.heap a b).get? (yo3 s.heap a b).objs.size = some _ := Heap.get?_push_of_some _ (Heap.get?_push_size _ rfl)
  have o3 : (yo5 s.heap a b).get? (yo2 s.heap a b).objs.size = some _ := Heap.get?_push_of_some _ (Heap.get?_push_of_some _ (Heap.get?_push_size _ rfl))
  have o2 : (yo5 s.heap a b).get? (yo1 s.heap a).objs.size = some _ := Heap.get?_push_of_some _ (Heap.get?_push_of_some _ (Heap.get?_push_of_some _ (Heap.get?_push_size _ rfl)))
  have o1 : (yo5 s.heap a b).get? s.heap.objs.size = some _ := Heap.get?_push_of_some _ (Heap.get?_push_of_some _ (Heap.get?_push_of_some _ (Heap.get?_push_of_some _ (Heap.get?_push_size _ rfl))))
  rw [z2, z3, z4] at o5
  rw [z1, z2] at o3
  rw [z3] at o4
  rw [z1] at o2
  show _ ∧ _
  rw [z4]
  exact ⟨⟨_, o5, rfl⟩, q _ ⟨o5, o3, ⟨_, _, o4⟩, ⟨_, o1, rfl, rfl⟩, ⟨_, o2, rfl, rfl⟩⟩ fun c o x => Heap.get?_push_of_some _ (Heap.get?_push_of_some _ (Heap.get?_push_of_some _ (Heap.get?_push_of_some _ (Heap.get?_push_of_some _ x))))⟩
def iZip2 (K : PySem.W.Frag) (ta : TA) : TI := fun σ H R => ta σ H fun vs H1 => ∃ a b, vs = [.ref a, .ref b] ∧ (∃ xs, SqT K H1 a xs) ∧ (∃ ys, SqT K H1 b ys) ∧ R (Itz2 K a b) H1
theorem pi_zip2 {X : Cx} {es : List Expr} {k1 : Nat} {p1 : Pos} {e1 e2 : Expr} {ta : TA} {p pos : Pos} (hg : Gl X "zip") (hm : X.mg "zip" = none) (ha : PA X [e1, e2] ta) (hs : starEach [e1, e2] X.env = [(false, eval e1 X.env), (false, eval e2 X.env)] := by rfl) (hs2 : starEach [e2] X.env = [(false, eval e2 X.env)] := by rfl) :
    PI X (.Tuple es k1 p1) (.Call (.Name "zip" p) [e1, e2] [] pos) (iZip2 X.K ta) := by
  intro pins s σ H R I h
  refine Call_ (ld_blt I hg hm bt_zip (PyProof.Rows.callWith_type1 (thn (ha pos pins s σ H _ I h) fun us s1 ⟨vs, H1, I1, r1, q1⟩ => ?_) (by rw [hs, hs2]) (by rw [hs2]; rfl)))
  obtain ⟨a, b, rfl, ⟨xs, hx⟩, ⟨ys, hy⟩, q⟩ := q1
  cases r1 with
  | cons r rr =>
    cases rr with
    | cons r' rr =>
      cases rr
      cases r
      cases r'
      obtain ⟨its, _, tx, _⟩ := I1.tuple hx
      obtain ⟨its', _, ty, _⟩ := I1.tuple hy
      have la : a < s1.heap.objs.size := by obtain ⟨o, e, _⟩ := tx; exact Heap.lt_size e
      have lb : b < s1.heap.objs.size := by obtain ⟨o, e, _⟩ := ty; exact Heap.lt_size e
      refine call_zipTT tx (ty) fun g st kp => wpAny_pyIter_zip st.1 ?_
      have I2 : Inv X pins σ H1 { s1 with heap := g } := I1.kept (t' := s1.toks) kp
      refine ⟨s1.heap.objs.size + 4, _, _, _, H1, rfl, I2, turn_zip2 la lb, st, fun c hc => ?_, q⟩
      refine I1.fpOk ?_ (I1.hok.fresh ?_)
      all_goals
        have hc' : c = s1.heap.objs.size + 4 ∨ c = s1.heap.objs.size + 2 ∨ c = s1.heap.objs.size + 3 ∨ c = s1.heap.objs.size ∨ c = s1.heap.objs.size + 1 := by simpa using hc
        rcases hc' with e | e | e | e | e <;> (subst e; omega)
end L2

namespace L2
open PySem PySem.Spec PyProof.Rows
variable {X : Cx}
/-! ### list(d): the keys of a dict, texts -/
def rListD : List V → Hp → VK → Prop := fun xs H Q => ∃ a kvs, ∃ ss : List Str, xs = [.ref a] ∧ H a = some (.dK kvs) ∧ kvs.map (·.1) = ss.map Sum.inr ∧ ∀ p, H p = none → Q (.ref p) (upd H p (.lst (ss.map V.str)))
/-! ### list(range(a, b, c)) -/
def tListRng3 (ta : TA) : TE := fun σ H Q => ta σ H fun vs H1 => ∃ i j c : Int, vs = [.int i, .int j, .int c] ∧ (-(2 ^ 20) ≤ i ∧ i < 2 ^ 20 ∧ -(2 ^ 20) ≤ j ∧ j < 2 ^ 20 ∧ 1 ≤ c ∧ c < 2 ^ 20) ∧ (j - i) / c ≤ 900 ∧
  ∀ p (ms : List Int), (∀ x ∈ ms, i ≤ x ∧ x < j) → (ms.length : Int) ≤ max 0 ((j - i - 1) / c + 1) → H1 p = none → Q (.ref p) (upd H1 p (.lst (ms.map V.int)))
end L2

namespace L2
open PySem PySem.Spec PyProof.Rows
variable {X : Cx}
/-! ### a dict walked: it is held still from then on -/
/-- the keys of a dict that is held still -/
def Itd (d : Addr) (ob : Obj) (kvs : List (Key × V)) : It :=
  ⟨fun i H => H d = some (.frz ob (.dK kvs)) ∧ i < kvs.length, fun i H v H' => H' = H ∧ ∃ kv, kvs[i]? = some kv ∧ v = kV kv.1, fun i H => H d = some (.frz ob (.dK kvs)) ∧ kvs.length ≤ i⟩
def iDict (tl : TE) : TI := fun σ H R => tl σ H fun x H1 => ∃ d kvs, x = .ref d ∧ H1 d = some (.dK kvs) ∧ ∀ ob, R (Itd d ob kvs) (upd H1 d (.frz ob (.dK kvs)))
end L2

namespace L2
open PySem PySem.Spec PyProof.Rows PySem.W
/-! ### try, with the names kept -/
/-- an exception of a callee that is called while the names are σ -/
def PassesAt (CX : CXT) (X : Cx) (σ : St) (E : XK) : Prop := ∀ (pins : List (Addr × Obj)) (H : Hp) (s : Shared) (e : Value) (s' : Shared), Inv X pins σ H s → CX X.stack H s E e s' → X.xe e s'
section
variable {X : Cx}
theorem run_fnS {CX : CXT} {k : Nat} {f : Addr} {fd : FuncData} {ps : List Str} {sp : Sp} {E : XK} {pins : List (Addr × Obj)} {σ : St} {H : Hp} {s : Shared} {Q : VK} {us : List Value} {vs : List V} (F : FnOk X.prog X.w X.K X.mg X.base CX k f fd ps sp) (hr : Room k X.A) (hb : Binds X.K fd ps []) (hx : PassesAt CX X σ E)
    (I : Inv X pins σ H s) (r : Vals vs us) (h : sp (vs ++ []) H Q E) : wpAny (model X.prog X.w) X.A (call (.ref f) us) (EP X pins σ Q) X.xe s := by
  have r2 : Vals (vs ++ []) (us ++ []) := r.append .nil
  have hl : (us ++ []).length = ps.length := by rw [← r2.length]; exact F.len _ _ _ _ h
  refine wpAny_call (codeAny_mono (F.run X.A X.stack s H ⟨us, []⟩ (us ++ []) (vs ++ []) Q E hr I.env0 (hb s us I.kIn hl) r2 h) fun r s' hq => ?_)
  cases r with
  | error e => exact hx pins H s e s' I hq
  | ok fl =>
    cases fl with
    | ret u => exact I.after hq
    | next => exact False.elim hq
    | brk => exact False.elim hq
    | cont => exact False.elim hq
theorem pe_calS {CX : CXT} {k : Nat} {x : Str} {ps : List Str} {sp : Sp} {E : XK} {e : Expr} {es : List Expr} {t : TA} {p pos : Pos} {σ : St} (C : Cal X.prog X.w X.K X.mg X.base CX k x ps sp) (hr : Room k X.A) (hg : Gl X x) (hx : PassesAt CX X σ E)
    (ha : PA X (e :: es) t) (hdb : (x == ("__debug__" : Str)) = false := by decide) (he : starEach (e :: es) X.env = (false, eval e X.env) :: starEach es X.env := by rfl) (hpl : (backTo pos (starEach es X.env)).any (·.1) = false := by rfl) :
    PE X (.Call (.Name x p) (e :: es) [] pos) (fun σ' H Q => σ' = σ ∧ tCall sp [] E t σ' H Q) := by
  obtain ⟨f, fd, hm, hk, hb, F⟩ := C.ex
  intro pins s σ' H Q I h
  obtain ⟨es', h⟩ := h
  subst es'
  refine wpAny_Call_Name_kw (ld_glob I hg hm ?_ hdb)
  refine PySem.W.callWith_K (h₀ := X.base) I.ok.mod.kin hk (thn (ha pos pins s σ' H _ I h) fun us s1 ⟨vs, H1, I1, r, q⟩ => ⟨I1.kIn, ?_⟩) he hpl
  exact run_fnS F hr hb hx I1 r q
/-- as tTry, of a body that changes no name: the others stay -/
def tTryS (K : Frag) (i j : Nat) (Dc : Addr) (tb : St → XK → TS) : TS := fun D σ H => tb σ (fun cls dd H' => ∃ C, cls = .ref C ∧ ExK K C ∧ subIn K (.ref C) (.ref Dc) = some true ∧ ∀ a, H' a = none → D.nx (((σ.set i (some (.ref a))).set j (some (.ref a))).set i none) (upd H' a (excD a C dd))) D σ H
theorem ps_tryS {body : List Stmt} {tb : St → XK → TS} {d n y : Str} {dp np py apos hpos pos : Pos} {i j : Nat} {Dc : Addr} (O : OwnF X) (hg : Gl X d) (hm : X.mg d = some (.ref Dc)) (F : CtK X.K Dc) (hN : X.N.Nodup) (hi : X.N[i]? = some n)
    (hki : X.env.scope.names.lookup n = some .local) (hj : X.N[j]? = some y) (hkj : X.env.scope.names.lookup y = some .local) (hij : i ≠ j)
    (hb : ∀ (pins : List (Addr × Obj)) (E' : Value → Shared → Prop) (σ : St) (Ec : XK), PassesAt (CXg X.prog X.w) (X.trying pins E') σ Ec → PSs (X.trying pins E') body (tb σ Ec))
    (hdb : (d == ("__debug__" : Str)) = false := by decide) (hnb : (n == ("__debug__" : Str)) = false := by decide) (hnc : (n == ("__classdict__" : Str)) = false := by decide)
    (hs : swapsWith (.Name n np) (some (.Name y py)) apos.line X.env = pure false := by rfl) :
    PS X (.Try body [.ExceptHandler (some (.Name d dp)) (some n) [.Assign [.Name y py] (.Name n np) apos] hpos] [] [] pos) (tTryS X.K i j Dc tb) := by
  intro pins s σ H D I h
  refine wpAny_Try_except (wpAny_mono (hb pins _ σ _ ?hp [] s σ H D (I.trying _) h) (fun f s1 z => ?_) fun _ _ z => z)
  case hp =>
    intro pl Hc sc e s' I0 hx
    have I1 : Inv X pins σ Hc sc := I0.tried
    obtain ⟨ea, C, dd, H', rfl, Fl, C', e1, FK, hsub, hk⟩ := hx
    cases e1
    obtain ⟨B, hok, fl, bk, th⟩ := Fl.fl
    have hfr : X.A.frames = some (X.env :: X.outer) := by rw [← O.stk]; exact I1.ok.frames
    have fl' : FlyD B (X.env :: X.outer) ea (.ref C) dd .none s'.heap := by rw [← O.stk]; exact fl
    have hBe : B.get? ea = none := fl.no
    refine noteD hfr O.fr fl' fun h4 held4 up4 => ?_
    refine flightD held4 fun h5 fl5 up5 => ?_
    have mk : ∀ h6 : Heap, B.StaysIn h6 → s'.heap.UpToSlots h6 → Inv X pins σ H' { s' with heap := h6 } := fun h6 st up =>
      I1.call' (s' := { s' with heap := h6 }) (ch := []) Fl.os (un_here I1 Fl.un bk th st up) (hok.kept st) Fl.bare (by simp)
    have I5 := mk h5 fl5.st (up4.trans up5)
    obtain ⟨ob, _, hob, hobc, _, _⟩ := fl5.at
    refine wpAny_handleBy_cons (codeAny_handlers_test (ld_glob (I5.within (.ref ea)) hg hm ?_ hdb)) (by intro q; cases q)
    refine exc_matches I5.kIn ⟨hob, hobc⟩ F hsub ?_
    refine codeAny_handlers_suite_as ?_
    refine flightD fl5 fun h6 fl6 up6 => ?_
    have I6 := mk h6 fl6.st ((up4.trans up5).trans up6)
    obtain ⟨ob6, ws, hob6, hobc6, hobdd, hobd6⟩ := fl6.at
    -- the error stood nowhere ahead of the call
    have nfr : ea ∉ frs X.stack := fun z => by
      obtain ⟨_, o', ho', hnf⟩ := I6.stack.mem z
      rw [hob6] at ho'
      cases ho'
      exact hnf ws hobd6
    have nsc : sc.heap.get? ea = none := by
      cases q : sc.heap.get? ea with
      | none => rfl
      | some o =>
        obtain ⟨o', e'⟩ := th ea o q nfr
        rw [hBe] at e'
        cases e'
    have nH : H' ea = none := by
      cases q : H' ea with
      | none => rfl
      | some o =>
        exfalso
        have lt := hok.lt q
        obtain ⟨o', e'⟩ : ∃ o', B.get? ea = some o' := by
          exact objThere (hok ea o q)
        rw [hBe] at e'
        cases e'
    have n0 : X.s₀.heap.get? ea = none := by
      cases q : X.s₀.heap.get? ea with
      | none => rfl
      | some o =>
        obtain ⟨o', e'⟩ := I1.base.there ea o q (by rw [O.ex]; simp)
        rw [nsc] at e'
        cases e'
    have nL : ea ≠ X.env.locals := fun z => by
      obtain ⟨m, ⟨oL, _, _, hoL, _⟩, _⟩ := I1.loc
      rw [← z, nsc] at hoL
      cases hoL
    have I7 : Inv X pins σ (upd H' ea (excD ea C dd)) { s' with heap := h6 } := I6.track nH n0 nL
      (fun x c q z => by obtain ⟨v, o, ho, _⟩ := I1.cell x c q; rw [z, nsc] at ho; cases ho)
      (fun p q z => by have := (I1.pin p q).1; rw [z, nsc] at this; cases this)
      ⟨⟨ob6, ⟨hob6, hobc6⟩, hobdd, _, hobd6⟩, ⟨ob6, hob6⟩, fun h1 h2 ⟨o, ho, hd⟩ k => ⟨o, ⟨k o ho.at_, ho.cls⟩, hd⟩⟩
    have J := I7.within (.ref ea)
    refine store_ok (X := X.within (.ref ea)) J hN hi (.inl hki) (show RelV (.ref ea) (.ref ea) from rfl) (fun s8 I8 => ?_) (.inr hki)
    have hiσ : i < σ.length := by rw [I1.len]; exact (List.getElem?_eq_some_iff.mp hi).1
    have z := pss_one (ps_set (X := X.within (.ref ea)) (pos := apos) (pos' := py) (i := j) hN hj (.inl hkj) (pe_var (X := X.within (.ref ea)) (pos := np) hi (.inl hki) hnb hnc) hs (.inr hkj)) pins s8 (σ.set i (some (.ref ea))) (upd H' ea (excD ea C dd))
      { nx := fun σ9 H9 => σ9 = (σ.set i (some (.ref ea))).set j (some (.ref ea)) ∧ H9 = upd H' ea (excD ea C dd), rt := fun _ _ => False } I8 ⟨_, List.getElem?_set_self hiσ, rfl, rfl⟩
    refine wpAny_mono z (fun f s9 hf => ?_) (fun _ _ q => q.elim)
    cases f with
    | next =>
      obtain ⟨σ9, H9, I9, rfl, rfl⟩ := hf
      refine name_gone (I9.without I1.ok) hN hi hki fun s10 I10 => ?_
      exact ⟨_, _, I10, hk ea nH⟩
    | brk => obtain ⟨_, _, _, q⟩ := hf; exact q.elim
    | cont => obtain ⟨_, _, _, q⟩ := hf; exact q.elim
    | ret u => obtain ⟨_, _, _, _, _, q⟩ := hf; exact q.elim
  · have z' := SP.tried z
    cases f with
    | next => exact wpAny_execs_nil z'
    | brk => exact z'
    | cont => exact z'
    | ret u => exact z'
end
end L2
namespace L2
open PySem PySem.Spec PyProof.Rows
variable {X : Cx}
/-! ### a dict that is held still, read -/
def rSortDSR : List V → Hp → VK → Prop := fun xs H Q => ∃ a kvs, ∃ ss : List Str, xs = [.ref a] ∧ Rd H a (.dK kvs) ∧ kvs.map (·.1) = ss.map Sum.inr ∧ kvs.length < 64 ∧ ∀ (p : Addr) (ss' : List Str), ss'.Perm ss → sortedS ss' = true → H p = none → Q (.ref p) (upd H p (.lst (ss'.map V.str)))
def tListValsR (td : TE) : TE := fun σ H Q => td σ H fun x H1 => ∃ a kvs, x = .ref a ∧ Rd H1 a (.dK kvs) ∧ ∀ p, H1 p = none → Q (.ref p) (upd H1 p (.lst (kvs.map (·.2))))
end L2

namespace L2
open PySem PySem.Spec PyProof.Rows
/-! ### heaps that grow, in which dicts may come to be held still -/
def Fz (H H' : Hp) : Prop := ∀ b o, H b = some o → H' b = some o ∨ ∃ ob kvs, o = .dK kvs ∧ H' b = some (.frz ob (.dK kvs))
/-- d is held still, all else is as it was -/
def Hld (d : Addr) (ob : Obj) (kvs : List (Key × V)) (H H' : Hp) : Prop := H' d = some (.frz ob (.dK kvs)) ∧ (∀ b, b ≠ d → H' b = H b) ∧ (H d = some (.dK kvs) ∨ H d = some (.frz ob (.dK kvs)))
section
variable {X : Cx}
/-- a dict walked that may be held still already -/
def iDictR (tl : TE) : TI := fun σ H R => tl σ H fun x H1 => ∃ d kvs, x = .ref d ∧ Rd H1 d (.dK kvs) ∧ ∀ ob H2, Hld d ob kvs H1 H2 → R (Itd d ob kvs) H2
/-! ### dict(d), isinstance(d, dict) -/
def rDictD : List V → Hp → VK → Prop := fun xs H Q => ∃ a kvs, xs = [.ref a] ∧ Rd H a (.dK kvs) ∧ ∀ p, H p = none → Q (.ref p) (upd H p (.dK kvs))
/-! ### == and != of dicts that tell the same -/
/-- each value of the one is told by the other -/
def DDeq (K : PySem.W.Frag) (H : Hp) (ka kb : List (Key × V)) : Prop := ka.length = kb.length ∧ ∀ kv ∈ ka, ∃ v' d, valV kb kv.1 = some v' ∧ Dv K H 30 kv.2 d ∧ Dv K H 30 v' d
def rNeDD (K : PySem.W.Frag) : R2 := fun x y H Q => ∃ a b ka kb, x = .ref a ∧ y = .ref b ∧ Rd H a (.dK ka) ∧ Rd H b (.dK kb) ∧ DDeq K H ka kb ∧ Q (.bl false) H
def rEqDD (K : PySem.W.Frag) : R2 := fun x y H Q => ∃ a b ka kb, x = .ref a ∧ y = .ref b ∧ Rd H a (.dK ka) ∧ Rd H b (.dK kb) ∧ DDeq K H ka kb ∧ Q (.bl true) H
end
end L2

namespace L2
open PySem PySem.Spec PyProof.Rows
/-! ### != of two lists of dicts that tell the same, at one program -/
/-- the two are equal, at this program -/
def EqIn (P : Program) (w : World) (A : Around) (s : Shared) (y x : Value) : Prop := ∀ (E : Value → Shared → Prop) (Q : Bool → Shared → Prop), Q true s → wpAny (model P w) A (eqBool y x) Q E s
section
open AutoSeq1 MeetsSeq MeetsSeq2 MeetsSeq3 SeqAt
variable {P : Program} {w : World}
end
section
variable {X : Cx}
def rNeLD (K : PySem.W.Frag) : R2 := fun x y H Q => ∃ a b xs ys, x = .ref a ∧ y = .ref b ∧ SqL K H a xs ∧ SqL K H b ys ∧ xs.length = ys.length ∧
  (∀ (j : Nat) x y, xs[j]? = some x → ys[j]? = some y → ∃ da db ka kb, x = .ref da ∧ y = .ref db ∧ Rd H da (.dK ka) ∧ Rd H db (.dK kb) ∧ DDeq K H ka kb) ∧ Q (.bl false) H
end
end L2

namespace HT
open PySem PyProof.Rows
/-- t < u of tuples of texts -/
def lexLtS : List Str → List Str → Bool
  | [], [] => false
  | [], _ :: _ => true
  | _ :: _, [] => false
  | x :: xs, y :: ys => if x = y then lexLtS xs ys else decide (x.cps.toList < y.cps.toList)
theorem lexLtS_cons (x y : Str) (xs ys : List Str) : lexLtS (x :: xs) (y :: ys) = if x = y then lexLtS xs ys else decide (x.cps.toList < y.cps.toList) := rfl
section
open PySem.SeqAt
open PySem.AutoSeq1 (wpAny_loadPart')
open PySem.MeetsSeq PySem.MeetsSeq2 PySem.MeetsSeq3

end

section
variable {prog : Program} {w : World} {A : Around} {E : Value → Shared → Prop} {s : Shared}

end
end HT
namespace L2
open PySem PySem.Spec PyProof.Rows
section
variable {X : Cx}
def rLtTS (K : PySem.W.Frag) : R2 := fun x y H Q => ∃ a b ns ms, x = .ref a ∧ y = .ref b ∧ SqT K H a (ns.map V.str) ∧ SqT K H b (ms.map V.str) ∧ Q (.bl (HT.lexLtS ns ms)) H
end
end L2

namespace HT
open PySem PySem.Spec PyProof.Rows
section
variable {prog : Program} {w : World} {A : Around} {E : Value → Shared → Prop} {s : Shared}
end
end HT
namespace L2
open PySem PySem.Spec PyProof.Rows
section
variable {X : Cx}
/-- () + u -/
def rCatT0 (K : PySem.W.Frag) : R2 := fun x y H Q => ∃ a b ys, x = .ref a ∧ y = .ref b ∧ SqT K H a [] ∧ SqT K H b ys ∧ Q (.ref b) H
/-- t + u, whatever t is -/
def rCatTA (K : PySem.W.Frag) : R2 := fun x y H Q => rCatT0 K x y H Q ∨ rCatT K x y H Q
/-- t * k, t not empty, k from 2 on -/
def rRepT (K : PySem.W.Frag) : R2 := fun x y H Q => ∃ a k xs, x = .ref a ∧ y = .int k ∧ SqT K H a xs ∧ xs ≠ [] ∧ 2 ≤ k ∧ k ≤ 1000 ∧ xs.length ≤ 1000 ∧ ∀ p, H p = none → Q (.ref p) (upd H p (.tup (List.replicate k.toNat xs).flatten))
end
end L2

namespace L2
open PySem PySem.Spec PyProof.Rows
/-! ### the statements of a def under names: what follows stays small -/
section
variable {D : Ends} {σ : L2.St} {H : Hp}
end
end L2

namespace L2
open PySem PySem.Spec PyProof.Rows PySem.W
section
variable {X : Cx}
end
end L2
namespace TM
open PySem PySem.Spec PyProof.Rows PySem.W
/-- j unlike things of a list: it is that long -/
theorem pigeon {α : Type} [BEq α] [LawfulBEq α] (f : Nat → α) : ∀ (j : Nat) (l : List α), (∀ i, i < j → f i ∈ l) → (∀ i k, i < j → k < j → f i = f k → i = k) → j ≤ l.length := by
  intro j
  induction j with
  | zero =>
    intro l _ _
    exact Nat.zero_le _
  | succ j ih =>
    intro l hm hi
    have h1 := hm j (Nat.lt_succ_self _)
    have := ih (l.erase (f j)) (fun i hij => (List.mem_erase_of_ne (fun e => by
      have := hi i j (by omega) (by omega) e
      omega)).mpr (hm i (by omega))) (fun i k a b e => hi i k (by omega) (by omega) e)
    rw [List.length_erase_of_mem h1] at this
    have : 0 < l.length := List.length_pos_of_mem h1
    omega
/-- the letter j places on, round the 26 -/
def rd (c j : Nat) : Nat := 97 + (c - 97 + j) % 26
abbrev LET : Str := "abcdefghijklmnopqrstuvwxyz"
theorem at_let {j : Nat} (h : j < 26) : (cps LET)[j]? = some (97 + j) := by
  have all : ∀ k : Fin 26, (cps LET)[k.val]? = some (97 + k.val) := by decide +kernel
  exact all ⟨j, h⟩
end TM

namespace GM
/-- t over b, in lowest terms, is N over M -/
structure Fr (M t b N : Int) : Prop where
  am : Amt t b
  e : t * M = N * b
end GM

namespace K36
open PySem PySem.Spec PyProof.Rows L2 GM TM
def top (i : Nat) : Stmt := PySem.Challenge.pw_phialhouse_k36_rows_that_are_none.main.body.getD i (.Pass ⟨0, 0, 0, 0⟩)
abbrev sIsWh : Stmt := top 13
abbrev sGcd : Stmt := top 14
abbrev sLow : Stmt := top 15
abbrev sIsAm : Stmt := top 16
abbrev sPlus : Stmt := top 17
abbrev sMinus : Stmt := top 18
abbrev sTimes : Stmt := top 19
abbrev sLess : Stmt := top 20
abbrev sIsWare : Stmt := top 24
abbrev sWithPh : Stmt := top 38
abbrev sDeedOf : Stmt := top 40
abbrev sDeedAt : Stmt := top 41
abbrev sIsRow : Stmt := top 42
abbrev sOfKind : Stmt := top 43
abbrev sDone : Stmt := top 45
abbrev sDoneAt : Stmt := top 46
abbrev sWalked : Stmt := top 47
abbrev sSpoilt : Stmt := top 48
abbrev sFirstR : Stmt := top 49
abbrev sCell : Stmt := top 51
abbrev sMixed : Stmt := top 52
abbrev sWhole : Stmt := top 53
abbrev sLowest : Stmt := top 54
abbrev sAdd : Stmt := top 55
abbrev sTake : Stmt := top 56
abbrev sBy : Stmt := top 57
abbrev sUnder : Stmt := top 58
abbrev sDigit : Stmt := top 59
abbrev sNames : Stmt := top 60
abbrev sWares : Stmt := top 61
abbrev sMuch : Stmt := top 62
abbrev sApart : Stmt := top 63
abbrev sFree : Stmt := top 64
abbrev sBench : Stmt := top 65
abbrev sFreeRow : Stmt := top 66
abbrev sRow : Stmt := top 67
abbrev sKind : Stmt := top 68
abbrev sRefused : Stmt := top 69
abbrev sOddPh : Stmt := top 70
abbrev sOddMu : Stmt := top 71
abbrev sSpoil : Stmt := top 72
abbrev sErr : Stmt := top 73
abbrev sLaw : Stmt := top 74
structure Txt (mg : Str → Option Value) : Prop where
  isi : mg "isinstance" = none
  int' : mg "int" = none
  bool' : mg "bool" = none
  tup' : mg "tuple" = none
  str' : mg "str" = none
  len : mg "len" = none
  range : mg "range" = none
  min' : mg "min" = none
  max' : mg "max" = none
  abs' : mg "abs" = none
  list' : mg "list" = none
  sorted' : mg "sorted" = none
  zip' : mg "zip" = none
  set' : mg "set" = none
  all' : mg "all" = none
  enum' : mg "enumerate" = none
  val : mg "ValueError" = none
def spGcd : Sp := fun vs H Q _ => ∃ a b : Int, vs = [.int a, .int b] ∧ 0 ≤ a ∧ 0 ≤ b ∧ Q (.int (G a b)) H
def spCell (K : PySem.W.Frag) : Sp := fun vs H Q _ => ∃ (a : Addr) (ns : List Int) (k : Int), vs = [.ref a, .int k] ∧ SqL K H a (ns.map V.int) ∧ 0 ≤ k ∧ ∀ c : Int, Q (.int c) H
structure Wr (x : Str) : Prop where
  l1 : 1 ≤ x.length
  l8 : x.length ≤ 8
  lt : ∀ c ∈ cps x, 97 ≤ c ∧ c ≤ 122
instance (x : Str) : Decidable (Wr x) := decidable_of_iff ((1 ≤ x.length ∧ x.length ≤ 8) ∧ ∀ c ∈ cps x, 97 ≤ c ∧ c ≤ 122) ⟨fun h => ⟨h.1.1, h.1.2, h.2⟩, fun h => ⟨⟨h.l1, h.l8⟩, h.lt⟩⟩
instance (x : Str) : Decidable (Wr x) := decidable_of_iff ((1 ≤ x.length ∧ x.length ≤ 8) ∧ ∀ c ∈ cps x, 97 ≤ c ∧ c ≤ 122) ⟨fun h => ⟨h.1.1, h.1.2, h.2⟩, fun h => ⟨⟨h.l1, h.l8⟩, h.lt⟩⟩
abbrev ltP (p q : Str × Str) : Prop := HT.lexLtS [p.1, p.2] [q.1, q.2] = true
def PsL (K : PySem.W.Frag) (H : Hp) (us : List V) (ps : List (Str × Str)) : Prop := us.length = ps.length ∧ ∀ (i : Nat) u p, us[i]? = some u → ps[i]? = some p → ∃ q, u = .ref q ∧ SqT K H q [.str p.1, .str p.2]
def Rising (ps : List (Str × Str)) : Prop := ∀ (i : Nat) p q, ps[i]? = some p → ps[i + 1]? = some q → ltP p q
section
variable {P : Program} {w : World} {K : PySem.W.Frag} {mg : Str → Option Value} {base : Heap}
theorem gcd_turn {a0 b0 a b : Int} (e : G a b = G a0 b0) (hb : 0 ≤ b) (h : ¬ b = 0) : 0 ≤ a % b ∧ G b (a % b) = G a0 b0 := ⟨Int.emod_nonneg a h, by rw [G_step]; exact e⟩
theorem scGcd : FnScope ["one", "other", "rest"] ["one", "other"] (defScope sGcd) := ⟨rfl, rfl, rfl, by decide +kernel, rfl, by decide +kernel, by decide +kernel⟩
theorem ok_gcd {f : Addr} {fd : FuncData} (F : Fun K "common_divisor" "common_divisor" sGcd f fd) : FnOk P w K mg base CX0 1 f fd ["one", "other"] spGcd := by
  refine F.ok scGcd (fun vs H Q E h => ?_) (fun cdv A outer s H vs Q E hr h => ?_)
  · obtain ⟨a, b, rfl, _⟩ := h
    rfl
  · obtain ⟨a, b, rfl, ha, hb, k⟩ := h
    refine ⟨_, pss_cons (ps_while PassesOwn.never (pt_cmpR op_ne (pv 1) pe_int (nomark _))
      (pss_cons (ps_set (i := 2) scGcd.nd rfl (Or.inl rfl) (pe_op op_mod (pv 0) (pv 1)))
      (pss_cons (ps_set (i := 0) scGcd.nd rfl (Or.inl rfl) (pv 1))
      (pss_one (ps_set (i := 1) scGcd.nd rfl (Or.inl rfl) (pv 2))))))
      (pss_one (ps_ret (pv 0))), ?_⟩
    refine while_by (fun σ H' => H' = H ∧ ∃ (x y : Int) (r : Option V), σ = [some (.int x), some (.int y), r] ∧ 0 ≤ x ∧ 0 ≤ y ∧ G x y = G a b) (fun σ _ => match σ with | [_, some (.int y), _] => y.toNat | _ => 0) ⟨rfl, a, b, none, rfl, ha, hb, rfl⟩ ?_ ?_
    · rintro σ H' ⟨rfl, x, y, r, rfl, hx, hy, e⟩
      refine ⟨_, rfl, rfl, _, rfl, ?_⟩
      refine ite2 (fun hc => ?_) (fun hc => ?_)
      · have hy0 : ¬ y = 0 := by
          intro z
          subst z
          simp at hc
        have t := gcd_turn e hy hy0
        refine ⟨_, rfl, _, rfl, _, _, rfl, rfl, (by show 0 < y; omega), _, rfl, _, rfl, ⟨rfl, y, x % y, _, rfl, hy, t.1, t.2⟩, ?_⟩
        have := Int.emod_lt_of_pos x (show 0 < y by omega)
        have := t.1
        show (x % y).toNat < y.toNat
        omega
      · have hy0 : y = 0 := by
          by_cases z : y = 0
          · exact z
          · exfalso
            apply hc
            simp [z]
        subst hy0
        rw [G_zero hx] at e
        exact ⟨_, rfl, by rw [e]; exact k⟩
    · rintro σ H' Q1 Q2 hq ⟨v, e, z, q⟩
      exact ⟨v, e, z, by obtain ⟨k, e, q⟩ := q; exact ⟨k, e, hq _ _ q⟩⟩
theorem b6 {n : Nat} {x : Int} (h : Bt n x) (hn : n ≤ 1000000 := by decide) : Bt 1000000 x := h.mono hn
theorem bt_lt (n : Nat) {x c : Int} (h0 : 0 ≤ x) (h : x < c) (hc : c ≤ ((2 ^ n : Nat) : Int) := by decide +kernel) : Bt n x := by
  show x.natAbs < 2 ^ n
  omega
theorem emod_in (x : Int) {m : Int} (h : 0 < m) : 0 ≤ x % m ∧ x % m < m := ⟨Int.emod_nonneg x (by omega), Int.emod_lt_of_pos x h⟩
theorem bt_int : bootBuiltins "int" = some (.type "int") := by decide +kernel
theorem bt_bool : bootBuiltins "bool" = some (.type "bool") := by decide +kernel
theorem bt_tuple : bootBuiltins "tuple" = some (.type "tuple") := by decide +kernel
theorem bt_str : bootBuiltins "str" = some (.type "str") := by decide +kernel
theorem bl {c : Int} (h0 : 0 ≤ c := by decide) (h : c < 18446744073709551616 := by decide) : Bt 1000000 c := b6 (bt_lt 64 h0 h)
theorem bk {c : Int} (h0 : 0 ≤ c := by decide) (h : c < 18446744073709551616 := by decide) : Bt 1000 c := (bt_lt 64 h0 h).mono (by decide)
theorem scCell : FnScope ["_law_script", "_law_k"] ["_law_script", "_law_k"] (defScope sCell) := ⟨rfl, rfl, rfl, by decide +kernel, rfl, by decide +kernel, by decide +kernel⟩
theorem ok_cell {f : Addr} {fd : FuncData} (F : Fun K "_law_cell_at" "_law_cell_at" sCell f fd) (T : Txt mg) : FnOk P w K mg base CX0 1 f fd ["_law_script", "_law_k"] (spCell K) := by
  refine F.ok scCell (fun vs H Q E h => ?_) (fun cdv A outer s H vs Q E hr h => ?_)
  · obtain ⟨_, _, _, rfl, _⟩ := h
    rfl
  · obtain ⟨a, ns, j, rfl, hS, h0, k⟩ := h
    refine ⟨_, (pss_cons (ps_if (pt_cmpR op_lt (pv 1) (pe_callB call_len_seq rfl T.len PySem.boot_len (pa_cons (pv 0) pa_nil)) (nomark _))
        (pss_one (ps_ret (pe_ix ix_list (pv 0) (pv 1) (fun _ _ => rfl))))
        pss_nil)
      (pss_one (ps_ret pe_int))), ?_⟩
    refine ⟨_, rfl, _, rfl, a, _, rfl, .inl hS, _, _, rfl, rfl, _, rfl, ite2 (fun hc => ?_) (fun _ => k _)⟩
    have hc' : j < ((ns.map V.int).length : Int) := of_decide_eq_true hc
    rw [List.length_map] at hc'
    obtain ⟨i, rfl⟩ := Int.eq_ofNat_of_zero_le h0
    obtain ⟨c, hc⟩ : ∃ c, ns[i]? = some c := ⟨_, List.getElem?_eq_getElem (show i < ns.length by omega)⟩
    exact ⟨_, rfl, _, rfl, a, _, (i : Int), .int c, rfl, rfl, hS, atI_nat (by rw [List.getElem?_map, hc]; rfl), k c⟩
theorem bt_abs : bootBuiltins "abs" = some (.builtin "abs") := by decide +kernel
theorem lenC (x : Str) : x.length = (cps x).length := by simp [Str.length, cps]
theorem lenA (x y : Str) : (x ++ y).length = x.length + y.length := by rw [lenC, cps_append', List.length_append, ← lenC, ← lenC]
theorem in_strs {x : Str} {ws : List Str} : inV (.str x) (ws.map V.str) = true ↔ x ∈ ws := by
  unfold inV
  rw [List.any_map, List.any_eq_true]
  constructor
  · rintro ⟨y, hy, e⟩
    have : y = x := by simpa [eqV] using e
    exact this ▸ hy
  · intro h
    exact ⟨x, h, by simp [eqV]⟩
theorem flat_strs (ws : List Str) : (ws.map V.str).all flatV = true := by
  rw [List.all_map, List.all_eq_true]
  intro x _
  rfl
theorem nodup_snoc {ws : List Str} {x : Str} (h : ws.Nodup) (n : x ∉ ws) : (ws ++ [x]).Nodup := by
  rw [List.nodup_append]
  refine ⟨h, by simp, fun y hy z hz e => ?_⟩
  rw [List.mem_singleton.mp hz] at e
  exact n (e ▸ hy)
theorem clOk_plain {X : Cx} {scope : Scope} (h : ∀ y ∈ scope.names, y.2 = .local ∨ y.2 = .globalImplicit) : ClOk X scope [] := by
  refine ⟨closureFor_none fun x hx z => ?_, fun x c e => by simp at e, fun x e => ?_⟩
  · rcases h x hx with q | q <;> rw [q] at z <;> cases z
  · exfalso
    have e' : ∃ k, (k = NameKind.cell ∨ k = NameKind.free) ∧ (relabel scope X.env).names.lookup x = some k := by
      rcases e with e | e
      · exact ⟨_, .inl rfl, e⟩
      · exact ⟨_, .inr rfl, e⟩
    obtain ⟨k, hk, e⟩ := e'
    have hm := PySem.mem_of_lookup e
    obtain ⟨y, hy, hy2⟩ := List.mem_map.mp hm
    have hl := h y hy
    obtain ⟨n, kk⟩ := y
    simp only at hl
    rcases hl with hl | hl <;> subst hl <;> simp at hy2 <;> rcases hk with rfl | rfl <;> exact absurd hy2.2 (by decide)
theorem list_eq {α : Type} {ys l : List α} (hl : ys.length = l.length) (h : ∀ (i : Nat) x y, l[i]? = some x → ys[i]? = some y → y = x) : ys = l := by
  refine List.ext_getElem? fun i => ?_
  by_cases hi : i < l.length
  · have e1 := List.getElem?_eq_getElem hi
    have e2 : ys[i]? = some (ys[i]'(by omega)) := List.getElem?_eq_getElem (by omega)
    rw [e1, e2, h i _ _ e1 e2]
  · rw [List.getElem?_eq_none (by omega), List.getElem?_eq_none (by omega)]
end
end K36

namespace L2
open PySem PySem.Spec PyProof.Rows
/-! ### texts joined, str of an int or a text -/
/-- the text that join tells -/
def jn (sep : Str) : List Str → Str
  | [x] => x
  | l => Builtin.Str.glued sep l
def rJoin (K : PySem.W.Frag) : V → List V → Hp → VK → Prop := fun z vs H Q => ∃ sep a ss, z = .str sep ∧ vs = [.ref a] ∧ SqL K H a (ss.map V.str) ∧ sep.length ≤ 10 ∧ ss.length ≤ 100 ∧ (∀ x ∈ ss, x.length ≤ 1000) ∧ Q (.str (jn sep ss)) H
/-- for over a text's signs -/
theorem for_str {x : Str} {g : TG} {tb : TS} {D : Ends} {σ : St} {H : Hp} (Pv : Nat → St → Hp → Prop) (h0 : Pv 0 σ H)
    (hs : ∀ i c σ H, x.cps[i]? = some c → Pv i σ H → g (.str ⟨#[c]⟩) σ H fun σ2 H2 => tb { D with nx := Pv (i + 1), ct := Pv (i + 1), bk := D.nx } σ2 H2) (hd : ∀ σ H, Pv x.cps.size σ H → D.nx σ H) :
    ∃ W : Nat → Nat → St → Hp → Prop, (∃ m, W 0 m σ H) ∧ ∀ i m σ H, W i m σ H →
      ((Its x).stop i H ∧ D.nx σ H) ∨ ((Its x).go i H ∧ ∃ N : St → Hp → Prop, (∀ σ' H', N σ' H' → ∃ m', m' < m ∧ W (i + 1) m' σ' H') ∧ ∀ v H', (Its x).yld i H v H' → g v σ H' fun σ2 H2 => tb { D with nx := N, ct := N, bk := D.nx } σ2 H2) := by
  refine ⟨fun i m σ H => m = x.cps.size - i ∧ i ≤ x.cps.size ∧ Pv i σ H, ⟨x.cps.size, by simp, Nat.zero_le _, h0⟩, ?_⟩
  rintro i m σ H ⟨rfl, hi, p⟩
  by_cases hlt : i < x.cps.size
  · refine .inr ⟨⟨x.cps[i], Array.getElem?_eq_getElem hlt⟩, Pv (i + 1), fun σ' H' p' => ⟨x.cps.size - (i + 1), by omega, rfl, hlt, p'⟩, fun v H' y => ?_⟩
    obtain ⟨e, c, hc, rfl⟩ := y
    subst e
    exact hs i c σ _ hc p
  · have e : i = x.cps.size := by omega
    subst e
    exact .inl ⟨Array.getElem?_eq_none (Nat.le_refl _), hd σ H p⟩
section
variable {X : Cx}
/-- the text of an int or a text -/
def tx : V → Str
  | .int n => toString n
  | .str x => x
  | _ => Str.empty
def TxOk (v : V) : Prop := (∃ n : Nat, v = .int n ∧ n < 10 ^ 60) ∨ ∃ x, v = .str x ∧ x.length ≤ 100
end
end L2

namespace K36
open PySem PySem.Spec PyProof.Rows L2 GM TM
/-- all but the object at a has stayed -/
def SmB (a : Addr) (H H' : Hp) : Prop := ∀ b o, b ≠ a → H b = some o → H' b = some o
theorem SmB.refl {a : Addr} {H : Hp} : SmB a H H := fun _ _ _ h => h
theorem SmB.trans {a : Addr} {H H1 H2 : Hp} (h : SmB a H H1) (k : SmB a H1 H2) : SmB a H H2 := fun b o n e => k b o n (h b o n e)
theorem SmB.of {a : Addr} {H H' : Hp} (h : Same H H') : SmB a H H' := fun b o _ e => h b o e
theorem SmB.upd {a : Addr} {H : Hp} {o : HO} : SmB a H (upd H a o) := fun b u n e => by rw [upd_ne n]; exact e
theorem SmB.own {a p : Addr} {H H' : Hp} {o : HO} (h : SmB a H H') (n : H p = none) : SmB a H (L2.upd H' p o) := fun b u nb e => by
  have ne : b ≠ p := fun z => by rw [z, n] at e; cases e
  rw [upd_ne ne]
  exact h b u nb e
theorem SmB.none {a p : Addr} {H H' : Hp} (h : SmB a H H') (n : H' p = none) (pa : p ≠ a) : H p = none := by
  cases e : H p with
  | none => rfl
  | some o =>
    have := h p o pa e
    rw [n] at this
    cases this
/-- what is left of a cell's digits -/
def Lf (H : Hp) (a : Addr) : Prop := ∃ n : Int, H a = some (.lst [.int n]) ∧ 0 ≤ n
theorem Lf.keep {H H' : Hp} {a : Addr} (h : Lf H a) (s : Same H H') : Lf H' a := by
  obtain ⟨n, e, r⟩ := h
  exact ⟨n, s _ _ e, r⟩
theorem Lf.there {H : Hp} {a b : Addr} (h : Lf H a) (n : H b = none) : b ≠ a := fun z => by
  obtain ⟨_, e, _⟩ := h
  rw [← z, n] at e
  cases e
theorem Lf.own {H : Hp} {a p : Addr} {o : HO} (h : Lf H a) (n : p ≠ a) : Lf (upd H p o) a := by
  obtain ⟨m, e, r⟩ := h
  exact ⟨m, by rw [upd_ne (Ne.symm n)]; exact e, r⟩
def spMixed : Sp := fun vs H Q _ => ∃ c k : Int, vs = [.int c, .int k] ∧ 0 ≤ k ∧ k ≤ 1000 ∧ ∀ n : Int, 0 ≤ n → n < 2147483647 → Q (.int n) H
def spLowest : Sp := fun vs H Q _ => ∃ t b : Int, vs = [.int t, .int b] ∧ 0 ≤ t ∧ 1 ≤ b ∧ Bt 9000 b ∧ ∀ p H', Same H H' → H p = none → H' p = some (.tup [.int (t / G t b), .int (b / G t b)]) → Q (.ref p) H'
def spDigit : Sp := fun vs H Q _ => ∃ (a : Addr) (m : Int), vs = [.ref a, .int m] ∧ Lf H a ∧ 1 ≤ m ∧ Bt 9000 m ∧ ∀ (d : Int) H', 0 ≤ d → d < m → SmB a H H' → Lf H' a → Q (.int d) H'
def spNames : Sp := fun vs H Q _ => ∃ a : Addr, vs = [.ref a] ∧ Lf H a ∧ ∀ (ws : List Str) p H', ws.length = 6 → ws.Nodup → (∀ x ∈ ws, Wr x) → SmB a H H' → H p = none → p ≠ a → H' p = some (.lst (ws.map V.str)) → Q (.ref p) H'
/-- a room: what is more than nought, in lowest terms -/
structure Rm (t b : Int) : Prop where
  t1 : 1 ≤ t
  b1 : 1 ≤ b
  g : G t b = 1
  st : Bt 100 t
  sb : Bt 100 b
def spMuch : Sp := fun vs H Q _ => ∃ n : Int, vs = [.int n] ∧ 0 ≤ n ∧ n < 2147483647 ∧ ∀ t b p H', Rm t b → Same H H' → H p = none → H' p = some (.tup [.int t, .int b]) → Q (.ref p) H'
theorem low_rm {t b : Int} (h0 : 1 ≤ t) (h1 : 1 ≤ b) (ht : Bt 100 t) (hb : Bt 100 b) : Rm (t / G t b) (b / G t b) := by
  have a := low_amt (t := t) (b := b) (by omega) h1
  have g := G_pos (a := t) (b := b) (by omega)
  have l := Int.le_of_dvd (by omega) (G_dvd_l t b)
  refine ⟨(Int.le_ediv_iff_mul_le g).mpr (by omega), (Int.le_ediv_iff_mul_le g).mpr (by have := G_le_r (a := t) (b := b) (by omega); omega), a.3, ht.le a.1 (Int.ediv_le_self _ (by omega)), hb.le (by have := a.2; omega) (Int.ediv_le_self _ (by omega))⟩
theorem low_small {t b : Int} (h1 : 1 ≤ b) (hs : Bt 9000 b) : 0 < G t b ∧ Bt 9000 (G t b) := by
  have p := G_pos (a := t) (b := b) (by omega)
  exact ⟨p, hs.le (by omega) (G_le_r (by omega))⟩
theorem b9 {c : Int} (h0 : 0 ≤ c := by decide) (h : c < 18446744073709551616 := by decide) : Bt 9000 c := (bt_lt 64 h0 h).mono (by decide)
theorem e18 : (10 : Int) ^ Int.toNat 18 = 1000000000000000000 := by decide +kernel
section
variable {P : Program} {w : World} {K : PySem.W.Frag} {mg : Str → Option Value} {base : Heap}
theorem scMixed : FnScope ["_law_cell", "_law_k"] ["_law_cell", "_law_k"] (defScope sMixed) := ⟨rfl, rfl, rfl, by decide +kernel, rfl, by decide +kernel, by decide +kernel⟩
theorem ok_mixed {f : Addr} {fd : FuncData} (F : Fun K "_law_mixed" "_law_mixed" sMixed f fd) : FnOk P w K mg base CX0 1 f fd ["_law_cell", "_law_k"] spMixed := by
  refine F.ok scMixed (fun vs H Q E h => ?_) (fun cdv A outer s H vs Q E hr h => ?_)
  · obtain ⟨_, _, rfl, _⟩ := h
    rfl
  · obtain ⟨c, k, rfl, k0, k1, q⟩ := h
    refine ⟨_, pss_one (ps_ret (pe_op op_mod (pe_op op_mulB (pe_op op_add (pe_op op_add (pe_op op_mod (pv 0) pe_int) (pe_op op_mulB (pv 1) (pv 1))) pe_int) pe_int) pe_int)), ?_⟩
    have c1 := emod_in c (m := 1000003) (by decide)
    have bk1 : Bt 32 k := bt_lt 32 (c := 1001) k0 (by omega)
    have b3 : Bt 66 (c % 1000003 + k * k + 1) := ((bt_lt 64 (c := 1000003) c1.1 c1.2).add (bk1.mul bk1)).add (bt_lt 65 (x := 1) (c := 2) (by decide) (by decide))
    refine ⟨_, rfl, _, _, rfl, rfl, (by show (0 : Int) < 1000003; decide), _, rfl, _, rfl, _, _, rfl, rfl, ⟨b6 bk1, b6 bk1⟩, _, _, rfl, rfl, _, _, rfl, rfl, _, _, rfl, rfl, ⟨b6 b3, bl⟩, _, _, rfl, rfl, (by show (0 : Int) < 2147483647; decide), ?_⟩
    have e := emod_in ((c % 1000003 + k * k + 1) * 48271) (m := 2147483647) (by decide)
    exact q _ e.1 e.2
theorem scLowest : FnScope ["_law_top", "_law_bottom", "_law_one", "_law_other"] ["_law_top", "_law_bottom"] (defScope sLowest) := ⟨rfl, rfl, rfl, by decide +kernel, rfl, by decide +kernel, by decide +kernel⟩
theorem ok_lowest {f : Addr} {fd : FuncData} (F : Fun K "_law_lowest" "_law_lowest" sLowest f fd) : FnOk P w K mg base CX0 1 f fd ["_law_top", "_law_bottom"] spLowest := by
  refine F.ok scLowest (fun vs H Q E h => ?_) (fun cdv A outer s H vs Q E hr h => ?_)
  · obtain ⟨a, b, rfl, _⟩ := h
    rfl
  · obtain ⟨a, b, rfl, ha, hb, bb, k⟩ := h
    refine ⟨_, (pss_cons (ps_set (i := 2) scLowest.nd rfl (Or.inl rfl) (pv 0))
      (pss_cons (ps_set (i := 3) scLowest.nd rfl (Or.inl rfl) (pv 1))
      (pss_cons (ps_while PassesOwn.never (pt_cmpR op_gt (pv 3) pe_int (nomark _))
      (pss_one (ps_par (i := 2) (j := 3) rfl scLowest.nd rfl rfl (by decide) rfl rfl (pa_cons (pv 3) (pa_cons (pe_op op_mod (pv 2) (pv 3)) pa_nil)) rfl)))
      (pss_one (ps_ret (pe_tup (pa_cons (pe_op op_fdivB (pv 0) (pv 2)) (pa_cons (pe_op op_fdivB (pv 1) (pv 2)) pa_nil)))))))), ?_⟩
    refine ⟨_, rfl, _, rfl, ?_⟩
    refine while_by (fun σ H' => H' = H ∧ ∃ (x y : Int), σ = [some (.int a), some (.int b), some (.int x), some (.int y)] ∧ 0 ≤ x ∧ 0 ≤ y ∧ G x y = G a b) (fun σ _ => match σ with | [_, _, _, some (.int y)] => y.toNat | _ => 0) ⟨rfl, a, b, rfl, ha, by omega, rfl⟩ ?_ ?_
    · rintro σ H' ⟨rfl, x, y, rfl, hx, hy, e⟩
      refine ⟨_, rfl, _, _, rfl, rfl, _, rfl, ?_⟩
      refine ite2 (fun hc => ?_) (fun hc => ?_)
      · have hy0 : 0 < y := of_decide_eq_true hc
        have t := gcd_turn e hy (by omega)
        refine ⟨_, rfl, _, rfl, _, rfl, _, _, rfl, rfl, (by show 0 < y; omega), _, _, rfl, ⟨rfl, y, x % y, rfl, hy, t.1, t.2⟩, ?_⟩
        have := Int.emod_lt_of_pos x (show 0 < y by omega)
        have := t.1
        show (x % y).toNat < y.toNat
        omega
      · have hy0 : y = 0 := by
          have : ¬ 0 < y := fun z => hc (decide_eq_true z)
          omega
        subst hy0
        rw [G_zero hx] at e
        subst e
        have g := low_small (t := a) hb bb
        refine ⟨_, rfl, _, rfl, _, _, rfl, rfl, g, _, rfl, _, rfl, _, _, rfl, rfl, g, (by show 2 ≤ sizeLine; decide), fun p hp => ?_⟩
        exact k p _ (Same.upd hp) hp upd_same
    · rintro σ H' Q1 Q2 hq ⟨v, e, i, j, e1, e2, z, ez, q⟩
      exact ⟨v, e, i, j, e1, e2, z, ez, hq _ _ q⟩
theorem scDigit : FnScope ["_law_left", "_law_many", "_law_found"] ["_law_left", "_law_many"] (defScope sDigit) := ⟨rfl, rfl, rfl, by decide +kernel, rfl, by decide +kernel, by decide +kernel⟩
theorem ok_digit {f : Addr} {fd : FuncData} (F : Fun K "_law_digit" "_law_digit" sDigit f fd) : FnOk P w K mg base CX0 1 f fd ["_law_left", "_law_many"] spDigit := by
  refine F.ok scDigit (fun vs H Q E h => ?_) (fun cdv A outer s H vs Q E hr h => ?_)
  · obtain ⟨_, _, rfl, _⟩ := h
    rfl
  · obtain ⟨a, m, rfl, ⟨n, ha, n0⟩, m1, bm, k⟩ := h
    refine ⟨_, (pss_cons (ps_set (i := 2) scDigit.nd rfl (Or.inl rfl) (pe_op op_mod (pe_ix ix_list (pv 0) pe_int (fun _ _ => rfl)) (pv 1)))
      (pss_cons (ps_asg (pe_op op_fdivB (pe_ix ix_list (pv 0) pe_int (fun _ _ => rfl)) (pv 1)) (pg_sub (pv 0) pe_int set_list))
      (pss_one (ps_ret (pv 2))))), ?_⟩
    refine ⟨_, rfl, a, _, 0, .int n, rfl, rfl, SqL.of ha, atI_nat (j := 0) rfl, _, rfl, _, _, rfl, rfl, (by show 0 < m; omega), ?_⟩
    refine ⟨_, rfl, a, _, 0, .int n, rfl, rfl, SqL.of ha, atI_nat (j := 0) rfl, _, rfl, _, _, rfl, rfl, ⟨by omega, bm⟩, _, rfl, a, _, 0, 0, rfl, rfl, ha, rfl, ?_⟩
    have e := emod_in n (show (0 : Int) < m by omega)
    exact ⟨_, rfl, k _ _ e.1 e.2 SmB.upd ⟨_, upd_same, Int.ediv_nonneg n0 (by omega)⟩⟩
theorem scMuch : FnScope ["_law_number"] ["_law_number"] (defScope sMuch) := ⟨rfl, rfl, rfl, by decide +kernel, rfl, by decide +kernel, by decide +kernel⟩
theorem ok_much {f : Addr} {fd : FuncData} (F : Fun K "_law_much" "_law_much" sMuch f fd) (cL : Cal P w K mg base CX0 1 "_law_lowest" ["_law_top", "_law_bottom"] spLowest) : FnOk P w K mg base CX0 2 f fd ["_law_number"] spMuch := by
  refine F.ok scMuch (fun vs H Q E h => ?_) (fun cdv A outer s H vs Q E hr h => ?_)
  · obtain ⟨_, rfl, _⟩ := h
    rfl
  · obtain ⟨n, rfl, n0, nl, k⟩ := h
    refine ⟨_, (pss_cons (ps_if (pt_cmpR op_eq (pe_op op_mod (pv 0) pe_int) pe_int (nomark _))
        (pss_one (ps_ret (pe_cal cL hr rfl pass0 (pa_cons (pe_op op_add pe_int (pe_op op_mod (pe_op op_mulB (pe_op op_fdivB (pv 0) pe_int) pe_int) (pe_op op_powB pe_int pe_int))) (pa_cons (pe_op op_add pe_int (pe_op op_mod (pe_op op_fdivB (pv 0) pe_int) pe_int)) pa_nil)))))
        pss_nil)
      (pss_one (ps_ret (pe_cal cL hr rfl pass0 (pa_cons (pe_op op_add pe_int (pe_op op_mod (pe_op op_fdivB (pv 0) pe_int) pe_int)) (pa_cons (pe_op op_add pe_int (pe_op op_mod (pe_op op_fdivB (pv 0) pe_int) pe_int)) pa_nil)))))), ?_⟩
    have q0 : 0 ≤ n / 4 := Int.ediv_nonneg n0 (by decide)
    have ql : n / 4 < 2147483647 := Int.lt_of_le_of_lt (Int.ediv_le_self _ n0) nl
    have bq : Bt 64 (n / 4) := bt_lt 64 q0 (Int.lt_trans ql (by decide : (2147483647 : Int) < 2147483648))
    have e1 := emod_in (n / 4) (m := 12) (by decide)
    have e2 := emod_in (n / 48) (m := 12) (by decide)
    refine ⟨_, rfl, _, _, rfl, rfl, (by show (0 : Int) < 4; decide), rfl, _, rfl, ite2 (fun _ => ?_) (fun _ => ?_)⟩
    · refine ⟨_, rfl, _, _, rfl, rfl, ⟨by decide, b9⟩, _, _, rfl, rfl, ⟨b6 bq, bl⟩, _, _, rfl, rfl, ⟨by decide, by decide, bk⟩, _, _, rfl, rfl, ?_, _, _, rfl, rfl, _, rfl, _, _, rfl, rfl, ⟨by decide, b9⟩, _, _, rfl, rfl, (by show (0 : Int) < 12; decide), _, _, rfl, rfl, ?_⟩
      · rw [e18]
        show (0 : Int) < 1000000000000000000
        decide
      · rw [e18]
        have e3 := emod_in (n / 4 * 69621) (m := 1000000000000000000) (by decide)
        exact ⟨_, _, rfl, by omega, by omega, b9 (by omega) (by omega), fun p H' sm np hp => k _ _ p H' (low_rm (by omega) (by omega) (bt_lt 100 (c := 2000000000000000000) (by omega) (by omega)) (bt_lt 100 (c := 2000000000000000000) (by omega) (by omega))) sm np hp⟩
    · refine ⟨_, rfl, _, _, rfl, rfl, ⟨by decide, b9⟩, _, _, rfl, rfl, (by show (0 : Int) < 12; decide), _, _, rfl, rfl, _, rfl, _, _, rfl, rfl, ⟨by decide, b9⟩, _, _, rfl, rfl, (by show (0 : Int) < 12; decide), _, _, rfl, rfl, ?_⟩
      exact ⟨_, _, rfl, by omega, by omega, b9 (by omega) (by omega), fun p H' sm np hp => k _ _ p H' (low_rm (by omega) (by omega) (bt_lt 100 (c := 2000000000000000000) (by omega) (by omega)) (bt_lt 100 (c := 2000000000000000000) (by omega) (by omega))) sm np hp⟩
end
end K36

namespace K36
open PySem PySem.Spec PyProof.Rows L2 GM TM
def one (c : Nat) : Str := ⟨#[c]⟩
theorem cps_one (c : Nat) : cps (one c) = [c] := rfl
theorem wr_one {c : Nat} (h : 97 ≤ c ∧ c ≤ 122) : Wr (one c) := ⟨(by show 1 ≤ 1; decide), (by show 1 ≤ 8; decide), fun x hx => by
  rw [cps_one] at hx
  rw [List.mem_singleton.mp hx]
  exact h⟩
theorem one_inj {c d : Nat} (e : one c = one d) : c = d := by
  have := congrArg cps e
  rw [cps_one, cps_one] at this
  exact (List.cons.inj this).1
def spWares : Sp := fun vs H Q _ => ∃ c : Int, vs = [.int c] ∧ ∀ (ws : List Str) p H', ws.length = 6 → ws.Nodup → (∀ x ∈ ws, Wr x) → Same H H' → H p = none → H' p = some (.lst (ws.map V.str)) → Q (.ref p) H'
section
variable {P : Program} {w : World} {K : PySem.W.Frag} {mg : Str → Option Value} {base : Heap}
theorem scNames : FnScope ["_law_left", "_law_letters", "_law_found", "_law_k", "_law_word", "_law_j", "_law_tail"] ["_law_left"] (defScope sNames) := ⟨rfl, rfl, rfl, by decide +kernel, rfl, by decide +kernel, by decide +kernel⟩
theorem ok_names {f : Addr} {fd : FuncData} (F : Fun K "_law_names" "_law_names" sNames f fd) (T : Txt mg) (cD : Cal P w K mg base CX0 1 "_law_digit" ["_law_left", "_law_many"] spDigit) : FnOk P w K mg base CX0 2 f fd ["_law_left"] spNames := by
  refine F.ok scNames (fun vs H Q E h => ?_) (fun cdv A outer s H vs Q E hr h => ?_)
  · obtain ⟨_, rfl, _⟩ := h
    rfl
  · obtain ⟨a, rfl, lf, k⟩ := h
    refine ⟨_, (pss_cons (ps_set (i := 1) scNames.nd rfl (Or.inl rfl) pe_str)
      (pss_cons (ps_set (i := 2) scNames.nd rfl (Or.inl rfl) (pe_lst pa_nil))
      (pss_cons (ps_for PassesOwn.never rfl (pi_range1 rfl T.range (pa_cons pe_int pa_nil)) (pg_name (i := 3) scNames.nd rfl (Or.inl rfl))
        (pss_cons (ps_set (i := 4) scNames.nd rfl (Or.inl rfl) pe_str)
        (pss_cons (ps_for PassesOwn.never rfl (pi_range1 rfl T.range (pa_cons (pe_op op_add pe_int (pe_cal cD hr rfl pass0 (pa_cons (pv 0) (pa_cons pe_int pa_nil)))) pa_nil)) (pg_name (i := 5) scNames.nd rfl (Or.inl rfl))
          (pss_one (ps_set (i := 4) scNames.nd rfl (Or.inl rfl) (pe_op op_add_str (pv 4) (pe_ix ix_str (pv 1) (pe_cal cD hr rfl pass0 (pa_cons (pv 0) (pa_cons pe_int pa_nil))) (fun _ _ => rfl))))))
        (pss_cons (ps_for PassesOwn.never rfl (pi_str (pv 1)) (pg_name (i := 6) scNames.nd rfl (Or.inl rfl))
          (pss_one (ps_if (pt_cmpR op_in_seq (pv 4) (pv 2) rfl) (pss_one (ps_set (i := 4) scNames.nd rfl (Or.inl rfl) (pv 6))) pss_nil)))
        (pss_one (ps_expr (pe_bm PySem.F.plainAttrs_list PySem.F.slot_list_append PySem.F.type_list_append mt_append (pv 2) (pa_cons (pv 4) pa_nil))))))))
      (pss_one (ps_ret (pv 2)))))), ?_⟩
    have zL : LET.length ≤ sizeLine := by decide +kernel
    refine ⟨(by show 0 ≤ sizeLine; decide), fun p hp => ?_⟩
    have pa : p ≠ a := lf.there hp
    refine ⟨6, rfl, by decide, by decide, ?_⟩
    refine for_range (fun i σ H' => ∃ (ws : List Str) (v3 v4 v5 v6 : Option V), σ = [some (.ref a), some (.str LET), some (.ref p), v3, v4, v5, v6] ∧ ws.length = i ∧ ws.Nodup ∧ (∀ x ∈ ws, Wr x) ∧ SmB a H H' ∧ Lf H' a ∧ H' p = some (.lst (ws.map V.str)))
      ⟨[], none, none, none, none, rfl, rfl, List.nodup_nil, (fun _ h => nomatch h), SmB.refl.own hp, lf.own pa, upd_same⟩ ?_ ?_
    · rintro i σ H2 hi ⟨ws, v3, v4, v5, v6, rfl, wl, nd, wr, s2, lf2, hp2⟩
      have hi6 : i < 6 := hi
      refine ⟨_, rfl, a, 8, rfl, lf2, by decide, b9, fun e H3 e0 el s3 lf3 => ⟨_, _, rfl, rfl, 1 + e, rfl, by omega, by omega, ?_⟩⟩
      refine for_range (fun j σ H' => ∃ (x : Str) (v5 : Option V), σ = [some (.ref a), some (.str LET), some (.ref p), some (.int (0 + i)), some (.str x), v5, v6] ∧ x.length = j ∧ (∀ c ∈ cps x, 97 ≤ c ∧ c ≤ 122) ∧ SmB a H H' ∧ Lf H' a ∧ H' p = some (.lst (ws.map V.str)))
        ⟨"", v5, rfl, rfl, (fun _ h => nomatch h), s2.trans s3, lf3, s3 _ _ pa hp2⟩ ?_ ?_
      · rintro j σ H4 hj ⟨x, u5, rfl, xl, xc, s4, lf4, hp4⟩
        refine ⟨_, rfl, _, rfl, _, rfl, a, 26, rfl, lf4, by decide, b9, fun g H5 g0 gl s5 lf5 => ?_⟩
        obtain ⟨gn, rfl⟩ := Int.eq_ofNat_of_zero_le g0
        have lx : x.length ≤ 8 := by omega
        refine ⟨LET, (gn : Int), 97 + gn, rfl, rfl, zL, atI_nat (at_let (by omega)), _, _, rfl, rfl, sz1000 (by show x.length + 1 ≤ 1000; omega), ?_⟩
        refine ⟨_, _, rfl, ?_, fun c hc => ?_, s4.trans s5, lf5, s5 _ _ pa hp4⟩
        · rw [lenA, xl]
          rfl
        · rw [cps_append'] at hc
          rcases List.mem_append.mp hc with h | h
          · exact xc c h
          · have : c = 97 + gn := by simpa [cps] using h
            omega
      · rintro σ H4 ⟨x, u5, rfl, xl, xc, s4, lf4, hp4⟩
        have wx : Wr x := ⟨by omega, by omega, xc⟩
        refine ⟨_, rfl, LET, rfl, ?_⟩
        refine for_str (fun j σ H' => ∃ (y : Str) (v6 : Option V), σ = [some (.ref a), some (.str LET), some (.ref p), some (.int (0 + i)), some (.str y), u5, v6] ∧ H' = H4 ∧ Wr y ∧ (y ∉ ws ∨ j = 0 ∨ ∃ q, j = q + 1 ∧ y = one (97 + q) ∧ ∀ r, r < q → one (97 + r) ∈ ws)) ⟨x, v6, rfl, rfl, wx, .inr (.inl rfl)⟩ ?_ ?_
        · rintro j c σ H5 hc ⟨y, v6', rfl, rfl, wy, inv⟩
          have hj : j < 26 := by
            have := (Array.getElem?_eq_some_iff.mp hc).1
            exact this
          have ec : c = 97 + j := by
            have h1 := at_let hj
            have h2 : (cps LET)[j]? = some c := by simpa [cps] using hc
            rw [h1] at h2
            exact (Option.some.inj h2).symm
          subst ec
          refine ⟨_, rfl, _, rfl, p, _, rfl, .inl (SqL.of hp4), rfl, flat_strs ws, _, rfl, ite2 (fun hin => ?_) (fun hno => ?_)⟩
          · have hin' : y ∈ ws := in_strs.mp hin
            refine ⟨_, rfl, one (97 + j), _, rfl, rfl, wr_one (by omega), .inr (.inr ⟨j, rfl, rfl, fun r hr => ?_⟩)⟩
            rcases inv with h | h | ⟨q, e, ey, h⟩
            · exact absurd hin' h
            · omega
            · by_cases z : r = q
              · rw [z, ← ey]
                exact hin'
              · exact h r (by omega)
          · exact ⟨y, _, rfl, rfl, wy, .inl fun z => hno (in_strs.mpr z)⟩
        · rintro σ H5 ⟨y, v6', rfl, rfl, wy, inv⟩
          have ny : y ∉ ws := by
            rcases inv with h | h | ⟨q, e, ey, h⟩
            · exact h
            · exact absurd h (by decide)
            · exfalso
              have q25 : q = 25 := by
                have : LET.cps.size = 26 := by decide +kernel
                omega
              have := pigeon (fun r => one (97 + r)) 25 ws (fun r hr => h r (by omega)) (fun r1 r2 _ _ e => by have := one_inj e; omega)
              omega
          refine ⟨_, rfl, .inl ⟨rfl, _, SqL.of hp4⟩, _, rfl, p, _, _, rfl, rfl, hp4, small1000 (by rw [List.length_map]; omega), ?_⟩
          refine ⟨ws ++ [y], _, _, _, _, rfl, by rw [List.length_append, wl]; rfl, nodup_snoc nd ny, fun z hz => ?_, s4.own hp, lf4.own pa, by rw [List.map_append]; exact upd_same⟩
          rcases List.mem_append.mp hz with h | h
          · exact wr z h
          · rw [List.mem_singleton.mp h]
            exact wy
    · rintro σ H2 ⟨ws, v3, v4, v5, v6, rfl, wl, nd, wr, s2, lf2, hp2⟩
      exact ⟨_, rfl, k ws p H2 wl nd wr s2 hp pa hp2⟩
theorem ndW1 : (["_law_tail", "_law_word"] : List Str).Nodup := by decide +kernel
theorem ndW2 : (["_law_k", "_law_word", "_law_letters", "_law_number"] : List Str).Nodup := by decide +kernel
abbrev tails : List Str := ["", "a", "aa", "ab", "b", "ba"]
theorem cps_inj {x y : Str} (h : cps x = cps y) : x = y := by
  obtain ⟨⟨x⟩⟩ := x
  obtain ⟨⟨y⟩⟩ := y
  simp [cps] at h
  rw [h]
theorem app_inj {x y z : Str} (h : x ++ y = x ++ z) : y = z := by
  have := congrArg cps h
  rw [cps_append', cps_append'] at this
  exact cps_inj (List.append_cancel_left this)
theorem wr_app {x y : Str} (l1 : 1 ≤ x.length) (l : x.length + y.length ≤ 8) (hx : ∀ c ∈ cps x, 97 ≤ c ∧ c ≤ 122) (hy : ∀ c ∈ cps y, 97 ≤ c ∧ c ≤ 122) : Wr (x ++ y) := by
  refine ⟨by rw [lenA]; omega, by rw [lenA]; exact l, fun c hc => ?_⟩
  rw [cps_append'] at hc
  rcases List.mem_append.mp hc with h | h
  · exact hx c h
  · exact hy c h
theorem tails_ok : ∀ t ∈ tails, t.length ≤ 2 ∧ ∀ c ∈ cps t, 97 ≤ c ∧ c ≤ 122 := by decide +kernel
theorem tails_nd : tails.Nodup := by decide +kernel
theorem strs_eq {ys : List V} {ws : List Str} (hl : ys.length = ws.length) (h : ∀ (i : Nat) y b, ys[i]? = some y → ws[i]? = some b → y = .str b) : ys = ws.map V.str := by
  refine list_eq (by rw [List.length_map]; exact hl) fun i x y hx hy => ?_
  rw [List.getElem?_map] at hx
  cases e : ws[i]? with
  | none => rw [e] at hx; cases hx
  | some b =>
    rw [e] at hx
    cases hx
    exact h i y b hy e
theorem nodup_map {α β : Type} {f : α → β} : ∀ {l : List α}, (∀ x ∈ l, ∀ y ∈ l, f x = f y → x = y) → l.Nodup → (l.map f).Nodup
  | [], _, _ => List.nodup_nil
  | x :: r, h, n => by
    rw [List.nodup_cons] at n
    rw [List.map_cons, List.nodup_cons]
    refine ⟨fun z => ?_, nodup_map (fun a ha b hb => h a (List.mem_cons_of_mem _ ha) b (List.mem_cons_of_mem _ hb)) n.2⟩
    obtain ⟨y, hy, e⟩ := List.mem_map.mp z
    have := h y (List.mem_cons_of_mem _ hy) x (List.mem_cons_self ..) e
    rw [this] at hy
    exact n.1 hy
theorem scWares : FnScope ["_law_cell", "_law_letters", "_law_number", "_law_word", "_law_k"] ["_law_cell"] (defScope sWares) := ⟨rfl, rfl, rfl, by decide +kernel, rfl, by decide +kernel, by decide +kernel⟩
theorem ok_wares {f : Addr} {fd : FuncData} (F : Fun K "_law_wares" "_law_wares" sWares f fd) (T : Txt mg) (cN : Cal P w K mg base CX0 2 "_law_names" ["_law_left"] spNames) (cM : Cal P w K mg base CX0 2 "_law_mixed" ["_law_cell", "_law_k"] spMixed) : FnOk P w K mg base CX0 3 f fd ["_law_cell"] spWares := by
  refine F.ok scWares (fun vs H Q E h => ?_) (fun cdv A outer s H vs Q E hr h => ?_)
  · obtain ⟨_, rfl, _⟩ := h
    rfl
  · obtain ⟨c, rfl, k⟩ := h
    refine ⟨_, (pss_cons (ps_set (i := 1) scWares.nd rfl (Or.inr rfl) pe_str)
      (pss_cons (ps_if (pt_cmpR op_eq (pe_op op_mod (pv 0) pe_int) pe_int (nomark _))
        (pss_one (ps_ret (pe_cal cN hr rfl pass0 (pa_cons (pe_lst (pa_cons (pe_op op_fdivB (pe_callB call_abs rfl T.abs' bt_abs (pa_cons (pv 0) pa_nil)) pe_int) pa_nil)) pa_nil))))
        pss_nil)
      (pss_cons (ps_set (i := 2) scWares.nd rfl (Or.inr rfl) (pe_cal cM hr rfl pass0 (pa_cons (pv 0) (pa_cons pe_int pa_nil))))
      (pss_cons (ps_set (i := 3) scWares.nd rfl (Or.inr rfl) pe_str)
      (pss_cons (ps_for PassesOwn.never rfl (pi_range1 rfl T.range (pa_cons (pe_op op_add pe_int (pe_op op_mod (pv 2) pe_int)) pa_nil)) (pg_name (i := 4) scWares.nd rfl (Or.inl rfl))
        (pss_one (ps_set (i := 3) scWares.nd rfl (Or.inr rfl) (pe_op op_add_str (pv 3) (pe_ix ix_str (pv 1) (pe_op op_mod (pe_op op_fdivB (pe_cal cM hr rfl pass0 (pa_cons (pv 0) (pa_cons (pe_op op_add (pv 4) pe_int) pa_nil))) pe_int) pe_int) (fun _ _ => rfl))))))
      (pss_cons (ps_if (pt_cmpR op_eq (pe_op op_mod (pe_op op_fdivB (pv 2) pe_int) pe_int) pe_int (nomark _))
        (pss_one (ps_ret (pe_compC (N' := ["_law_tail", "_law_word"]) (fun σ => [none, some 3].map fun t => t.bind fun j => (σ[j]?).join) rfl rfl (by decide +kernel) (by decide +kernel)
          (hk_of (sc := defScope sWares) rfl (by decide +kernel)) (fun _ _ _ => blkN_by (sc := defScope sWares) (N := ["_law_cell", "_law_letters", "_law_number", "_law_word", "_law_k"]) [none, some 3] rfl rfl rfl rfl (by decide +kernel))
          (pi_tup (pe_tup (pa_cons pe_str (pa_cons pe_str (pa_cons pe_str (pa_cons pe_str (pa_cons pe_str (pa_cons pe_str pa_nil)))))))) (fun _ _ _ _ _ _ => pg_name (i := 0) ndW1 rfl (Or.inl rfl)) (fun _ _ _ _ _ _ => pifs_nil)
          (fun _ _ _ _ _ _ => pe_op op_add_str (pv 1) (pv 0)))))
        pss_nil)
      (pss_one (ps_ret (pe_compC (N' := ["_law_k", "_law_word", "_law_letters", "_law_number"]) (fun σ => [none, some 3, some 1, some 2].map fun t => t.bind fun j => (σ[j]?).join) rfl rfl (by decide +kernel) (by decide +kernel)
          (hk_of (sc := defScope sWares) rfl (by decide +kernel)) (fun _ _ _ => blkN_by (sc := defScope sWares) (N := ["_law_cell", "_law_letters", "_law_number", "_law_word", "_law_k"]) [none, some 3, some 1, some 2] rfl rfl rfl rfl (by decide +kernel))
          (pi_range1 rfl T.range (pa_cons pe_int pa_nil)) (fun _ _ _ _ _ _ => pg_name (i := 0) ndW2 rfl (Or.inl rfl)) (fun _ _ _ _ _ _ => pifs_nil)
          (fun _ _ _ _ _ _ => pe_op op_add_str (pv 1) (pe_ix ix_str (pv 2) (pe_op op_mod (pe_op op_add (pe_op op_fdivB (pv 3) pe_int) (pe_op op_mulB pe_int (pv 0))) pe_int) (fun _ _ => rfl)))))))))))), ?_⟩
    have zL : LET.length ≤ sizeLine := by decide +kernel
    refine ⟨_, rfl, _, _, rfl, rfl, (by show (0 : Int) < 2; decide), rfl, _, rfl, ite2 (fun _ => ?_) (fun _ => ?_)⟩
    · refine ⟨_, rfl, c, rfl, ?_⟩
      have ha : 0 ≤ (if c < 0 then -c else c) := by split <;> omega
      generalize (if c < 0 then -c else c) = n at *
      refine ⟨_, _, rfl, rfl, ⟨by decide, b9⟩, (by show 1 ≤ sizeLine; decide), fun z hz => ⟨z, rfl, ⟨_, upd_same, Int.ediv_nonneg ha (by decide)⟩, fun ws p H' wl nd wr sm hp pz hp' => ?_⟩⟩
      have hpn : H p = none := by
        cases e : H p with
        | none => rfl
        | some o =>
          have := Same.upd (o := .lst [.int (n / 2)]) hz _ _ e
          rw [hp] at this
          cases this
      exact k ws p H' wl nd wr (fun b o e => sm b o (fun q => by rw [q, hz] at e; cases e) (Same.upd hz _ _ e)) hpn hp'
    refine ⟨_, rfl, c, 0, rfl, by decide, by decide, fun n n0 nl => ?_⟩
    have e5 := emod_in n (m := 5) (by decide)
    refine ⟨_, rfl, _, _, rfl, rfl, (by show (0 : Int) < 5; decide), _, _, rfl, rfl, _, rfl, by omega, by omega, ?_⟩
    refine for_range (fun i σ H' => ∃ (x : Str) (v4 : Option V), σ = [some (.int c), some (.str LET), some (.int n), some (.str x), v4] ∧ x.length = i ∧ (∀ d ∈ cps x, 97 ≤ d ∧ d ≤ 122) ∧ H' = H) ⟨"", none, rfl, rfl, (fun _ h => nomatch h), rfl⟩ ?_ ?_
    · rintro i σ H' hi ⟨x, v4, rfl, xl, xc, rfl⟩
      refine ⟨_, rfl, _, rfl, _, rfl, _, rfl, _, _, rfl, rfl, c, _, rfl, by omega, by omega, fun m m0 ml => ?_⟩
      have e := emod_in (m / 64) (m := 26) (by decide)
      obtain ⟨gn, hg⟩ := Int.eq_ofNat_of_zero_le e.1
      refine ⟨_, _, rfl, rfl, ⟨by decide, b9⟩, _, _, rfl, rfl, (by show (0 : Int) < 26; decide), LET, _, 97 + gn, rfl, rfl, zL, (by rw [hg]; exact atI_nat (at_let (by omega))), _, _, rfl, rfl, sz1000 (by show x.length + 1 ≤ 1000; omega), ?_⟩
      refine ⟨_, _, rfl, ?_, fun d hd => ?_, rfl⟩
      · rw [lenA, xl]
        rfl
      · rw [cps_append'] at hd
        rcases List.mem_append.mp hd with h | h
        · exact xc d h
        · have : d = 97 + gn := by simpa [cps] using h
          omega
    · rintro σ H' ⟨x, v4, rfl, xl, xc, rfl⟩
      have xl1 : 1 ≤ x.length := by omega
      have xl5 : x.length ≤ 5 := by omega
      refine ⟨_, rfl, _, _, rfl, rfl, ⟨by decide, b9⟩, _, _, rfl, rfl, (by show (0 : Int) < 2; decide), rfl, _, rfl, ite2 (fun _ => ?_) (fun _ => ?_)⟩
      · refine ⟨(by show 6 ≤ sizeLine; decide), fun q hq => ⟨q, rfl, ⟨_, SqT.of upd_same⟩, fun D hD => ?_⟩⟩
        refine comp_rel (Ys.tup (xs := tails.map V.str) (SqT.of upd_same)) (fun i _ y _ => ∀ t, tails[i]? = some t → y = .str (x ++ t)) (fun _ _ _ _ _ h _ => h) hD (by decide) (fun i y H2 R hy sm hR => ?_) (fun ys H2 sm hD' yl hy => ?_)
        · rw [List.getElem?_map] at hy
          cases et : tails[i]? with
          | none => rw [et] at hy; cases hy
          | some t =>
            rw [et] at hy
            cases hy
            have := (tails_ok t (List.mem_of_getElem? et)).1
            refine ⟨(Keep.refl _).set rfl, _, rfl, _, rfl, _, _, rfl, rfl, sz1000 (by omega), hR _ _ (Same.refl _) fun t' e' => ?_⟩
            rw [et] at e'
            cases e'
            rfl
        · have ey := strs_eq (ws := tails.map fun t => x ++ t) (yl.trans (by rfl)) fun i y b h1 h2 => by
            rw [List.getElem?_map] at h2
            cases et : tails[i]? with
            | none => rw [et] at h2; cases h2
            | some t =>
              rw [et] at h2
              cases h2
              exact hy i (.str t) y (by rw [List.getElem?_map, et]; rfl) h1 t et
          subst ey
          refine k _ D H2 rfl (nodup_map (fun a _ b _ e => app_inj e) tails_nd) (fun z hz => ?_) ((Same.upd hq).trans sm) ?_ hD'
          · obtain ⟨t, ht, rfl⟩ := List.mem_map.mp hz
            have tt := tails_ok t ht
            exact wr_app xl1 (by omega) xc tt.2
          · cases e : H' D with
            | none => rfl
            | some o =>
              have h9 : upd H' q (.tup (tails.map V.str)) D = none := hD
              have := Same.upd (o := .tup (tails.map V.str)) hq _ _ e
              rw [h9] at this
              cases this
      · refine ⟨6, rfl, by decide, by decide, fun D hD => ?_⟩
        refine comp_rel (Ys.rng (lo := 0) (n := 6)) (fun i _ y _ => y = .str (x ++ one (97 + ((n / 10 + 3 * ((0 : Int) + i)) % 26).toNat))) (fun _ _ _ _ _ h _ => h) hD (by decide) (fun i y H2 R hy sm hR => ?_) (fun ys H2 sm hD' yl hy => ?_)
        · obtain ⟨hi, rfl⟩ := rngV_get hy
          have e := emod_in (n / 10 + 3 * ((0 : Int) + i)) (m := 26) (by decide)
          have bi : Bt 64 ((0 : Int) + i) := bt_lt 64 (c := 100) (by omega) (by omega)
          obtain ⟨gn, hg⟩ := Int.eq_ofNat_of_zero_le e.1
          refine ⟨(Keep.refl _).set rfl, _, rfl, _, rfl, _, rfl, _, _, rfl, rfl, ⟨by decide, b9⟩, _, rfl, _, _, rfl, rfl, ⟨bl, b6 bi⟩, _, _, rfl, rfl, _, _, rfl, rfl, (by show (0 : Int) < 26; decide), LET, _, 97 + gn, rfl, rfl, zL, (by rw [hg]; exact atI_nat (at_let (by omega))), _, _, rfl, rfl, sz1000 (by show x.length + 1 ≤ 1000; omega), hR _ _ (Same.refl _) ?_⟩
          rw [hg]
          rfl
        · have ey := strs_eq (ws := (List.range 6).map fun i => x ++ one (97 + ((n / 10 + 3 * ((0 : Int) + (i : Nat))) % 26).toNat)) (yl.trans (by rfl)) fun i y b h1 h2 => by
            rw [List.getElem?_map] at h2
            cases et : (List.range 6)[i]? with
            | none => rw [et] at h2; cases h2
            | some t =>
              rw [et] at h2
              cases h2
              have ti : i = t := by
                obtain ⟨hl, e⟩ := List.getElem?_eq_some_iff.mp et
                simpa using e
              subst ti
              obtain ⟨v, hv⟩ : ∃ v, (rngV 0 6)[i]? = some v := ⟨_, List.getElem?_eq_getElem (by rw [rngV_len]; have := (List.getElem?_eq_some_iff.mp et).1; simpa using this)⟩
              exact hy i v y hv h1
          subst ey
          refine k _ D H2 rfl (nodup_map (fun a ha b hb e => ?_) List.nodup_range) (fun z hz => ?_) sm hD hD'
          · have h1 := one_inj (app_inj e)
            have ha' := List.mem_range.mp ha
            have hb' := List.mem_range.mp hb
            omega
          · obtain ⟨t, ht, rfl⟩ := List.mem_map.mp hz
            have e := emod_in (n / 10 + 3 * ((0 : Int) + (t : Nat))) (m := 26) (by decide)
            refine wr_app xl1 (by show x.length + 1 ≤ 8; omega) xc (fun d hd => ?_)
            rw [cps_one] at hd
            rw [List.mem_singleton.mp hd]
            omega
end
end K36

namespace K36
open PySem PySem.Spec PyProof.Rows L2 GM TM
theorem sorted_pw : ∀ {ss : List Str}, sortedS ss = true → ss.Pairwise (fun a b => a.cps.toList ≤ b.cps.toList)
  | [], _ => .nil
  | x :: r, h => by
    have key : ∀ (r : List Str) (x : Str), risingS x r = true → (∀ y ∈ r, x.cps.toList ≤ y.cps.toList) ∧ r.Pairwise (fun a b => a.cps.toList ≤ b.cps.toList) := by
      intro r
      induction r with
      | nil => intro x _; exact ⟨(fun _ h => nomatch h), .nil⟩
      | cons y r ih =>
        intro x hx
        have hx' : (!ltCps y.cps.toList x.cps.toList && risingS y r) = true := hx
        simp only [Bool.and_eq_true, Bool.not_eq_true'] at hx'
        obtain ⟨h1, h2⟩ := hx'
        rw [ltCps_eq] at h1
        have le : x.cps.toList ≤ y.cps.toList := List.not_lt.mp (of_decide_eq_false h1)
        obtain ⟨i1, i2⟩ := ih y h2
        refine ⟨fun z hz => ?_, .cons i1 i2⟩
        rcases List.mem_cons.mp hz with rfl | hz
        · exact le
        · exact List.le_trans le (i1 z hz)
    obtain ⟨k1, k2⟩ := key r x h
    exact .cons k1 k2
abbrev ltS (a b : Str) : Prop := a.cps.toList < b.cps.toList
structure Six (ss : List Str) : Prop where
  l : ss.length = 6
  up : ss.Pairwise ltS
  wr : ∀ x ∈ ss, Wr x
structure Six0 (ss : List Str) : Prop where
  l : ss.length = 6
  nd : ss.Nodup
  wr : ∀ x ∈ ss, Wr x
theorem str_eq {x y : Str} (h : x.cps.toList = y.cps.toList) : x = y := by
  obtain ⟨x⟩ := x
  obtain ⟨y⟩ := y
  exact congrArg Str.mk (Array.toList_inj.mp h)
theorem Six.of {ws ss : List Str} (h : Six0 ws) (p : ss.Perm ws) (s : sortedS ss = true) : Six ss := by
  refine ⟨p.length_eq.trans h.l, ?_, fun x hx => h.wr x (p.mem_iff.mp hx)⟩
  have n : ss.Nodup := p.nodup_iff.mpr h.nd
  refine (List.pairwise_and_iff.mpr ⟨sorted_pw s, n⟩).imp fun {a b} hab => ?_
  rcases List.le_iff_lt_or_eq.mp hab.1 with q | q
  · exact q
  · exact absurd (str_eq q) hab.2
def prS (ss : List Str) (q : Nat × Nat) : Str × Str := (ss.getD q.1 "", ss.getD q.2 "")
structure Qs (qs : List (Nat × Nat)) (j k : Nat) : Prop where
  pw : qs.Pairwise fun q r => q.1 < r.1 ∨ (q.1 = r.1 ∧ q.2 < r.2)
  rg : ∀ q ∈ qs, q.1 < q.2 ∧ q.2 < 6 ∧ (q.1 < j ∨ (q.1 = j ∧ q.2 < k))
theorem Qs.add {qs : List (Nat × Nat)} {j k : Nat} (h : Qs qs j k) (jk : j < k) (k6 : k < 6) : Qs (qs ++ [(j, k)]) j (k + 1) := by
  refine ⟨List.pairwise_append.mpr ⟨h.pw, List.pairwise_singleton _ _, fun q hq r hr => ?_⟩, fun q hq => ?_⟩
  · rw [List.mem_singleton.mp hr]
    exact (h.rg q hq).2.2
  · rcases List.mem_append.mp hq with z | z
    · have := h.rg q z
      omega
    · rw [List.mem_singleton.mp z]
      exact ⟨jk, k6, .inr ⟨rfl, Nat.lt_succ_self _⟩⟩
theorem Qs.more {qs : List (Nat × Nat)} {j k : Nat} (h : Qs qs j k) : Qs qs j (k + 1) := ⟨h.pw, fun q hq => by have := h.rg q hq; omega⟩
theorem Qs.next {qs : List (Nat × Nat)} {j k m : Nat} (h : Qs qs j k) : Qs qs (j + 1) m := ⟨h.pw, fun q hq => by have := h.rg q hq; omega⟩
theorem Qs.nil : Qs [] 0 m := ⟨.nil, fun q hq => nomatch hq⟩
structure GoodPs (ps : List (Str × Str)) : Prop where
  l : ps.length ≤ 25
  r : Rising ps
  ok : ∀ p ∈ ps, Wr p.1 ∧ Wr p.2 ∧ ltS p.1 p.2
theorem Six.get {ss : List Str} (h : Six ss) {i : Nat} (hi : i < 6) : ss[i]? = some (ss.getD i "") := by
  have := List.getElem?_eq_getElem (l := ss) (i := i) (by rw [h.l]; exact hi)
  rw [this, List.getD_eq_getElem?_getD, this]
  rfl
theorem Six.lt {ss : List Str} (h : Six ss) {i k : Nat} (ik : i < k) (hk : k < 6) : ltS (ss.getD i "") (ss.getD k "") := by
  have h1 : i < ss.length := by have := h.l; omega
  have h2 : k < ss.length := by have := h.l; omega
  have := List.pairwise_iff_getElem.mp h.up i k h1 h2 ik
  rw [List.getD_eq_getElem?_getD, List.getD_eq_getElem?_getD, List.getElem?_eq_getElem h1, List.getElem?_eq_getElem h2]
  exact this
theorem Six.w {ss : List Str} (h : Six ss) {i : Nat} (hi : i < 6) : Wr (ss.getD i "") := h.wr _ (List.mem_of_getElem? (h.get hi))
theorem lt_ne {x y : Str} (h : ltS x y) : x ≠ y := fun e => by
  subst e
  exact List.lt_irrefl _ h
theorem ltP_one {a b c d : Str} (h : ltS a c) : ltP (a, b) (c, d) := by
  show HT.lexLtS [a, b] [c, d] = true
  rw [HT.lexLtS_cons, if_neg (lt_ne h)]
  exact decide_eq_true h
theorem ltP_two {a b d : Str} (h : ltS b d) : ltP (a, b) (a, d) := by
  show HT.lexLtS [a, b] [a, d] = true
  rw [HT.lexLtS_cons, if_pos rfl, HT.lexLtS_cons, if_neg (lt_ne h)]
  exact decide_eq_true h
theorem Qs.good {qs : List (Nat × Nat)} {ss : List Str} {j k : Nat} (h : Qs qs j k) (s : Six ss) (l : qs.length ≤ 25) : GoodPs (qs.map (prS ss)) := by
  refine ⟨by rw [List.length_map]; exact l, fun i p q hp hq => ?_, fun p hp => ?_⟩
  · rw [List.getElem?_map] at hp hq
    obtain ⟨x, hx, rfl⟩ := Option.map_eq_some_iff.mp hp
    obtain ⟨y, hy, rfl⟩ := Option.map_eq_some_iff.mp hq
    obtain ⟨l1, rfl⟩ := List.getElem?_eq_some_iff.mp hx
    obtain ⟨l2, rfl⟩ := List.getElem?_eq_some_iff.mp hy
    have pw := List.pairwise_iff_getElem.mp h.pw i (i + 1) l1 l2 (Nat.lt_succ_self _)
    have r1 := h.rg _ (List.getElem_mem l1)
    have r2 := h.rg _ (List.getElem_mem l2)
    rcases pw with z | ⟨z1, z2⟩
    · exact ltP_one (s.lt z (by omega))
    · show ltP (ss.getD _ "", ss.getD _ "") (ss.getD _ "", ss.getD _ "")
      rw [z1]
      exact ltP_two (s.lt z2 (by omega))
  · obtain ⟨q, hq, rfl⟩ := List.mem_map.mp hp
    have r := h.rg q hq
    exact ⟨s.w (by omega), s.w r.2.1, s.lt r.1 r.2.1⟩
def PsT (H : Hp) (us : List V) (ps : List (Str × Str)) : Prop := us.length = ps.length ∧ ∀ (i : Nat) u p, us[i]? = some u → ps[i]? = some p → ∃ q, u = .ref q ∧ H q = some (.tup [.str p.1, .str p.2])
theorem PsT.nil {H : Hp} : PsT H [] [] := ⟨rfl, fun i u p h => by simp at h⟩
theorem PsT.keep {H H' : Hp} {us : List V} {ps : List (Str × Str)} (h : PsT H us ps) (s : Tk H H') : PsT H' us ps := ⟨h.1, fun i u p hu hp => by
  obtain ⟨q, e, sq⟩ := h.2 i u p hu hp
  exact ⟨q, e, s _ _ sq⟩⟩
theorem PsT.add {H : Hp} {us : List V} {ps : List (Str × Str)} {q : Addr} {p : Str × Str} (h : PsT H us ps) (k : H q = some (.tup [.str p.1, .str p.2])) : PsT H (us ++ [.ref q]) (ps ++ [p]) := by
  refine ⟨by rw [List.length_append, List.length_append, h.1]; rfl, fun j x d hx hd => ?_⟩
  by_cases hj : j < us.length
  · rw [List.getElem?_append_left hj] at hx
    rw [List.getElem?_append_left (by rw [← h.1]; exact hj)] at hd
    exact h.2 j x d hx hd
  · rw [List.getElem?_append_right (by omega)] at hx
    rw [List.getElem?_append_right (by rw [← h.1]; omega), ← h.1] at hd
    obtain ⟨hl, e⟩ := List.getElem?_eq_some_iff.mp hx
    simp at hl
    rw [hl] at hx hd
    cases hx
    cases hd
    exact ⟨q, rfl, k⟩
def spApart (K : PySem.W.Frag) : Sp := fun vs H Q _ => ∃ (a : Addr) (ws : List Str) (c o : Int), vs = [.ref a, .int c, .int o] ∧ SqL K H a (ws.map V.str) ∧ Six0 ws ∧ 1 ≤ o ∧
  ∀ p us ps H', Same H H' → H p = none → H' p = some (.tup us) → PsT H' us ps → GoodPs ps → Q (.ref p) H'
theorem same_own {H H' : Hp} {p : Addr} {o : HO} (s : Same H H') (n : H p = none) : Same H (upd H' p o) := fun b u e => by
  rw [upd_ne (fun z => by rw [z, n] at e; cases e)]
  exact s _ _ e
theorem same_none {H H' : Hp} {p : Addr} (s : Same H H') (n : H' p = none) : H p = none := by
  cases e : H p with
  | none => rfl
  | some o =>
    have := s _ _ e
    rw [n] at this
    cases this
theorem at_six {ss : List Str} (h : Six ss) {i : Nat} {e : Int} (hi : i < 6) (he : e = (i : Int)) : atI (ss.map V.str) e = some (.str (ss.getD i "")) := by
  rw [he]
  exact atI_nat (by rw [List.getElem?_map, h.get hi]; rfl)
section
variable {P : Program} {w : World} {K : PySem.W.Frag} {mg : Str → Option Value} {base : Heap}
theorem scApart : FnScope ["_law_wares_here", "_law_cell", "_law_often", "_law_found", "_law_some", "_law_j", "_law_k"] ["_law_wares_here", "_law_cell", "_law_often"] (defScope sApart) := ⟨rfl, rfl, rfl, by decide +kernel, rfl, by decide +kernel, by decide +kernel⟩
theorem ok_apart {f : Addr} {fd : FuncData} (F : Fun K "_law_apart" "_law_apart" sApart f fd) (T : Txt mg) (cM : Cal P w K mg base CX0 1 "_law_mixed" ["_law_cell", "_law_k"] spMixed) : FnOk P w K mg base CX0 2 f fd ["_law_wares_here", "_law_cell", "_law_often"] (spApart K) := by
  refine F.ok scApart (fun vs H Q E h => ?_) (fun cdv A outer s H vs Q E hr h => ?_)
  · obtain ⟨_, _, _, _, rfl, _⟩ := h
    rfl
  · obtain ⟨a, ws, c, o, rfl, ha, six0, o1, k⟩ := h
    refine ⟨_, (pss_cons (ps_set (i := 3) scApart.nd rfl (Or.inl rfl) (pe_lst pa_nil))
      (pss_cons (ps_set (i := 4) scApart.nd rfl (Or.inl rfl) (pe_callB call_sortS rfl T.sorted' boot_sorted (pa_cons (pv 0) pa_nil)))
      (pss_cons (ps_for PassesOwn.never rfl (pi_range1 rfl T.range (pa_cons (pe_callB call_len_seq rfl T.len PySem.boot_len (pa_cons (pv 4) pa_nil)) pa_nil)) (pg_name (i := 5) scApart.nd rfl (Or.inl rfl))
        (pss_one (ps_for PassesOwn.never rfl (pi_range2 rfl T.range (pa_cons (pe_op op_add (pv 5) pe_int) (pa_cons (pe_callB call_len_seq rfl T.len PySem.boot_len (pa_cons (pv 4) pa_nil)) pa_nil))) (pg_name (i := 6) scApart.nd rfl (Or.inl rfl))
          (pss_one (ps_if (pt_cmpR op_eq (pe_op op_mod (pe_op op_fdivB (pe_cal cM hr rfl pass0 (pa_cons (pv 1) (pa_cons (pe_op op_add (pe_op op_mulB pe_int (pv 5)) (pv 6)) pa_nil))) pe_int) (pv 2)) pe_int (nomark _))
            (pss_one (ps_expr (pe_bm PySem.F.plainAttrs_list PySem.F.slot_list_append PySem.F.type_list_append mt_append (pv 3) (pa_cons (pe_tup (pa_cons (pe_ix ix_list (pv 4) (pv 5) (fun _ _ => rfl)) (pa_cons (pe_ix ix_list (pv 4) (pv 6) (fun _ _ => rfl)) pa_nil))) pa_nil))))
            pss_nil)))))
      (pss_one (ps_ret (pe_callTy call_tuple_of rfl T.tup' bt_tuple (pa_cons (pv 3) pa_nil))))))), ?_⟩
    refine ⟨(by show 0 ≤ sizeLine; decide), fun d hd => ?_⟩
    have s1 : Same H (upd H d (.lst [])) := Same.upd hd
    refine ⟨_, rfl, a, ws, rfl, s1.seq ha, by have := six0.l; omega, fun z ss pm st hz => ?_⟩
    have six := Six.of six0 pm st
    have zd : z ≠ d := fun e => by rw [e, upd_same] at hz; cases hz
    have hz0 : H z = none := same_none s1 hz
    have l6 : ((ss.map V.str).length : Int) = 6 := by rw [List.length_map, six.l]; rfl
    refine ⟨_, rfl, z, _, rfl, .inl (SqL.of upd_same), _, rfl, by omega, by omega, ?_⟩
    rw [l6]
    refine for_range (fun i σ H' => ∃ (us : List V) (qs : List (Nat × Nat)) (v5 v6 : Option V), σ = [some (.ref a), some (.int c), some (.int o), some (.ref d), some (.ref z), v5, v6] ∧ Same H H' ∧ H' d = some (.lst us) ∧ H' z = some (.lst (ss.map V.str)) ∧ PsT H' us (qs.map (prS ss)) ∧ Qs qs i 0 ∧ qs.length ≤ 5 * min i 5)
      ⟨[], [], none, none, rfl, same_own s1 hz0, by rw [upd_ne (Ne.symm zd)]; exact upd_same, upd_same, PsT.nil, Qs.nil, by decide⟩ ?_ ?_
    · rintro j σ H2 hj ⟨us, qs, v5, v6, rfl, s2, hd2, hz2, pt, hq, ql⟩
      have hj6 : j < 6 := hj
      refine ⟨_, rfl, _, _, rfl, rfl, _, rfl, z, _, rfl, .inl (SqL.of hz2), _, _, rfl, by omega, ?_⟩
      rw [l6]
      refine for_range (fun i σ H' => ∃ (us : List V) (qs : List (Nat × Nat)) (v6 : Option V), σ = [some (.ref a), some (.int c), some (.int o), some (.ref d), some (.ref z), some (.int (0 + j)), v6] ∧ Same H H' ∧ H' d = some (.lst us) ∧ H' z = some (.lst (ss.map V.str)) ∧ PsT H' us (qs.map (prS ss)) ∧ Qs qs j (j + 1 + i) ∧ qs.length ≤ 5 * min j 5 + i)
        ⟨us, qs, v6, rfl, s2, hd2, hz2, pt, ⟨hq.pw, fun q h => by have := hq.rg q h; omega⟩, by omega⟩ ?_ ?_
      · rintro i σ H3 hi ⟨us, qs, v6, rfl, s3, hd3, hz3, pt, hq, ql⟩
        have hi6 : j + 1 + i < 6 := by omega
        have bj : Bt 64 ((0 : Int) + j) := bt_lt 64 (c := 100) (by omega) (by omega)
        refine ⟨_, rfl, _, rfl, _, _, rfl, rfl, ⟨bl, b6 bj⟩, _, rfl, _, _, rfl, rfl, c, _, rfl, by omega, by omega, fun m m0 ml => ?_⟩
        refine ⟨_, _, rfl, rfl, ⟨by decide, b9⟩, _, rfl, _, _, rfl, rfl, (by show 0 < o; omega), rfl, _, rfl, ite2 (fun _ => ?_) (fun _ => ?_)⟩
        · refine ⟨_, rfl, .inl ⟨rfl, _, SqL.of hd3⟩, _, rfl, _, rfl, z, _, _, _, rfl, rfl, SqL.of hz3, at_six six (i := j) hj6 (by omega), _, rfl, _, rfl, z, _, _, _, rfl, rfl, SqL.of hz3, at_six six (i := j + 1 + i) hi6 (by omega), (by show 2 ≤ sizeLine; decide), fun q hq' => ?_⟩
          have qd : q ≠ d := fun e => by rw [e, hd3] at hq'; cases hq'
          have qz : d ≠ z := Ne.symm zd
          have ul : us.length = qs.length := by rw [pt.1, List.length_map]
          have e1 : (upd H3 q (.tup [.str (ss.getD j ""), .str (ss.getD (j + 1 + i) "")])) d = some (.lst us) := Same.upd hq' _ _ hd3
          refine ⟨d, us, _, rfl, rfl, e1, small1000 (by omega), us ++ [.ref q], qs ++ [(j, j + 1 + i)], _, rfl, same_own (s3.trans (Same.upd hq')) hd, upd_same, ?_, ?_, hq.add (by omega) hi6, by rw [List.length_append, List.length_singleton]; omega⟩
          · rw [upd_ne zd]
            exact Same.upd hq' _ _ hz3
          · rw [List.map_append]
            refine ((pt.keep (Same.upd hq').tk).keep (Tk.lst e1)).add ?_
            rw [upd_ne qd]
            exact upd_same
        · exact ⟨us, qs, _, rfl, s3, hd3, hz3, pt, hq.more, by omega⟩
      · rintro σ H3 ⟨us, qs, v6, rfl, s3, hd3, hz3, pt, hq, ql⟩
        exact ⟨us, qs, _, _, rfl, s3, hd3, hz3, pt, hq.next, by omega⟩
    · rintro σ H2 ⟨us, qs, v5, v6, rfl, s2, hd2, hz2, pt, hq, ql⟩
      refine ⟨_, rfl, d, us, rfl, .inl ⟨SqL.of hd2, fun l hl => ?_⟩⟩
      exact k l us _ _ (s2.trans (Same.upd hl)) (same_none s2 hl) upd_same (pt.keep (Same.upd hl).tk) (hq.good six (by omega))
end
end K36

namespace K36
open PySem PySem.Spec PyProof.Rows L2 GM TM
theorem same_smb {H H1 H2 : Hp} {a : Addr} (s : Same H H1) (k : SmB a H1 H2) (n : H a = none) : Same H H2 := fun b o e => k b o (fun z => by rw [z, n] at e; cases e) (s b o e)
theorem SmB.tk {H H' : Hp} {a : Addr} (k : SmB a H H') (l : Lf H a) : Tk H H' := fun b ys e => k b _ (fun z => by
  obtain ⟨_, h, _⟩ := l
  rw [z, h] at e
  cases e) e
def RmsT (H : Hp) (us : List V) : Prop := ∀ u ∈ us, ∃ q t b, u = .ref q ∧ H q = some (.tup [.int t, .int b]) ∧ Rm t b
theorem RmsT.nil {H : Hp} : RmsT H [] := fun u h => nomatch h
theorem RmsT.keep {H H' : Hp} {us : List V} (h : RmsT H us) (s : Tk H H') : RmsT H' us := fun u hu => by
  obtain ⟨q, t, b, e, sq, r⟩ := h u hu
  exact ⟨q, t, b, e, s _ _ sq, r⟩
theorem RmsT.add {H : Hp} {us : List V} {q : Addr} {t b : Int} (h : RmsT H us) (k : H q = some (.tup [.int t, .int b])) (r : Rm t b) : RmsT H (us ++ [.ref q]) := fun u hu => by
  rcases List.mem_append.mp hu with z | z
  · exact h u z
  · rw [List.mem_singleton.mp z]
    exact ⟨q, t, b, rfl, k, r⟩
structure Bn (H : Hp) (p r q : Addr) (rs us : List V) (ps : List (Str × Str)) : Prop where
  hp : H p = some (.tup [.ref r, .ref q])
  hr : H r = some (.tup rs)
  rm : RmsT H rs
  l1 : 1 ≤ rs.length
  l16 : rs.length ≤ 16
  hq : H q = some (.tup us)
  pt : PsT H us ps
  g : GoodPs ps
def spBench (K : PySem.W.Frag) : Sp := fun vs H Q _ => ∃ (a : Addr) (ns : List Int) (w : Addr) (ws : List Str), vs = [.ref a, .ref w] ∧ SqL K H a (ns.map V.int) ∧ SqL K H w (ws.map V.str) ∧ Six0 ws ∧ ∀ p r q rs us ps H', Same H H' → Bn H' p r q rs us ps → Q (.ref p) H'
theorem abs_nonneg (c : Int) : 0 ≤ (if c < 0 then -c else c) := by split <;> omega
theorem G_one (t : Int) : G t 1 = 1 := by
  have h1 := G_pos (a := t) (b := 1) (by decide)
  have h2 := G_le_r (a := t) (b := 1) (by decide)
  omega
theorem rm_one {t : Int} (h : 1 ≤ t) (ht : Bt 100 t) : Rm t 1 := ⟨h, by decide, G_one t, ht, bt_lt 100 (c := 2) (by decide) (by decide)⟩
theorem pick4 {e : Int} (h0 : 0 ≤ e) (h : e < 4) : ∃ m : Int, atI [V.int 5, V.int 5, V.int 5, V.int 16] e = some (.int m) ∧ 1 ≤ m ∧ m ≤ 16 := by
  obtain ⟨n, rfl⟩ := Int.eq_ofNat_of_zero_le h0
  have : n = 0 ∨ n = 1 ∨ n = 2 ∨ n = 3 := by omega
  rcases this with rfl | rfl | rfl | rfl
  · exact ⟨5, rfl, by decide, by decide⟩
  · exact ⟨5, rfl, by decide, by decide⟩
  · exact ⟨5, rfl, by decide, by decide⟩
  · exact ⟨16, rfl, by decide, by decide⟩
section
variable {P : Program} {w : World} {K : PySem.W.Frag} {mg : Str → Option Value} {base : Heap}
theorem scFree : FnScope ["_law_script", "_law_wares_here", "_law_left", "_law_rooms", "_law_k", "_law_top", "_law_pairs", "_law_some", "_law_j"] ["_law_script", "_law_wares_here"] (defScope sFree) := ⟨rfl, rfl, rfl, by decide +kernel, rfl, by decide +kernel, by decide +kernel⟩
theorem ok_free {f : Addr} {fd : FuncData} (F : Fun K "_law_free_bench" "_law_free_bench" sFree f fd) (T : Txt mg) (cC : Cal P w K mg base CX0 1 "_law_cell_at" ["_law_script", "_law_k"] (spCell K)) (cD : Cal P w K mg base CX0 1 "_law_digit" ["_law_left", "_law_many"] spDigit) (cL : Cal P w K mg base CX0 1 "_law_lowest" ["_law_top", "_law_bottom"] spLowest) : FnOk P w K mg base CX0 2 f fd ["_law_script", "_law_wares_here"] (spBench K) := by
  refine F.ok scFree (fun vs H Q E h => ?_) (fun cdv A outer s H vs Q E hr h => ?_)
  · obtain ⟨_, _, _, _, rfl, _⟩ := h
    rfl
  · obtain ⟨a, ns, w, ws, rfl, ha, hw, six0, k⟩ := h
    refine ⟨_, (pss_cons (ps_set (i := 2) scFree.nd rfl (Or.inl rfl) (pe_lst (pa_cons (pe_callB call_abs rfl T.abs' bt_abs (pa_cons (pe_cal cC hr rfl pass0 (pa_cons (pv 0) (pa_cons pe_int pa_nil))) pa_nil)) pa_nil)))
      (pss_cons (ps_set (i := 3) scFree.nd rfl (Or.inl rfl) (pe_lst pa_nil))
      (pss_cons (ps_for PassesOwn.never rfl (pi_range1 rfl T.range (pa_cons (pe_op op_add pe_int (pe_cal cD hr rfl pass0 (pa_cons (pv 2) (pa_cons pe_int pa_nil)))) pa_nil)) (pg_name (i := 4) scFree.nd rfl (Or.inl rfl))
        (pss_cons (ps_set (i := 5) scFree.nd rfl (Or.inl rfl) (pe_op op_add pe_int (pe_cal cD hr rfl pass0 (pa_cons (pv 2) (pa_cons (pe_op op_powB pe_int pe_int) pa_nil)))))
        (pss_one (ps_expr (pe_bm PySem.F.plainAttrs_list PySem.F.slot_list_append PySem.F.type_list_append mt_append (pv 3) (pa_cons (pe_cal cL hr rfl pass0 (pa_cons (pv 5) (pa_cons (pe_op op_add pe_int (pe_cal cD hr rfl pass0 (pa_cons (pv 2) (pa_cons (pe_op op_powB pe_int pe_int) pa_nil)))) pa_nil))) pa_nil))))))
      (pss_cons (ps_set (i := 6) scFree.nd rfl (Or.inl rfl) (pe_lst pa_nil))
      (pss_cons (ps_set (i := 2) scFree.nd rfl (Or.inl rfl) (pe_lst (pa_cons (pe_callB call_abs rfl T.abs' bt_abs (pa_cons (pe_cal cC hr rfl pass0 (pa_cons (pv 0) (pa_cons pe_int pa_nil))) pa_nil)) pa_nil)))
      (pss_cons (ps_set (i := 7) scFree.nd rfl (Or.inl rfl) (pe_callB call_sortS rfl T.sorted' boot_sorted (pa_cons (pv 1) pa_nil)))
      (pss_cons (ps_for PassesOwn.never rfl (pi_range1 rfl T.range (pa_cons pe_int pa_nil)) (pg_name (i := 8) scFree.nd rfl (Or.inl rfl))
        (pss_one (ps_for PassesOwn.never rfl (pi_range2 rfl T.range (pa_cons (pe_op op_add (pv 8) pe_int) (pa_cons pe_int pa_nil))) (pg_name (i := 4) scFree.nd rfl (Or.inl rfl))
          (pss_one (ps_if (pt_cmpR op_eq (pe_cal cD hr rfl pass0 (pa_cons (pv 2) (pa_cons pe_int pa_nil))) pe_int (nomark _))
            (pss_one (ps_expr (pe_bm PySem.F.plainAttrs_list PySem.F.slot_list_append PySem.F.type_list_append mt_append (pv 6) (pa_cons (pe_tup (pa_cons (pe_ix ix_list (pv 7) (pv 8) (fun _ _ => rfl)) (pa_cons (pe_ix ix_list (pv 7) (pv 4) (fun _ _ => rfl)) pa_nil))) pa_nil))))
            pss_nil)))))
      (pss_one (ps_ret (pe_tup (pa_cons (pe_callTy call_tuple_of rfl T.tup' bt_tuple (pa_cons (pv 3) pa_nil)) (pa_cons (pe_callTy call_tuple_of rfl T.tup' bt_tuple (pa_cons (pv 6) pa_nil)) pa_nil)))))))))))), ?_⟩
    refine ⟨_, rfl, a, ns, 1, rfl, ha, by decide, fun c => ⟨c, rfl, (by show 1 ≤ sizeLine; decide), fun l hl => ?_⟩⟩
    have c0 := abs_nonneg c
    generalize (if c < 0 then -c else c) = n at *
    have s1 : Same H (upd H l (.lst [.int n])) := Same.upd hl
    refine ⟨(by show 0 ≤ sizeLine; decide), fun d hd => ?_⟩
    have dl : d ≠ l := fun e => by rw [e, upd_same] at hd; cases hd
    have hd0 : H d = none := same_none s1 hd
    have e18' : (10 : Int) ^ Int.toNat 18 = 1000000000000000000 := e18
    refine ⟨_, rfl, l, 16, rfl, ⟨n, by rw [upd_ne (Ne.symm dl)]; exact upd_same, c0⟩, by decide, b9, fun m H1 m0 ml sb lf => ⟨_, _, rfl, rfl, _, rfl, by omega, by omega, ?_⟩⟩
    have s2 : Same H H1 := same_smb (s1.trans (Same.upd hd)) sb hl
    have hd1 : H1 d = some (.lst []) := sb d _ dl upd_same
    refine for_range (fun i σ H' => ∃ (rs : List V) (v4 v5 : Option V), σ = [some (.ref a), some (.ref w), some (.ref l), some (.ref d), v4, v5, none, none, none] ∧ Same H H' ∧ Lf H' l ∧ H' d = some (.lst rs) ∧ rs.length = i ∧ RmsT H' rs)
      ⟨[], none, none, rfl, s2, lf, hd1, rfl, RmsT.nil⟩ ?_ ?_
    · rintro i σ H2 hi ⟨rs, v4, v5, rfl, s3, lf2, hd2, rl, rm⟩
      refine ⟨_, rfl, _, _, rfl, rfl, ⟨by decide, by decide, bk⟩, l, _, rfl, lf2, ?_, ?_, fun t H3 t0 tl sb3 lf3 => ⟨_, _, rfl, rfl, ?_⟩⟩
      · rw [e18']; decide
      · rw [e18']; exact b9
      have hd3 := sb3 _ _ dl hd2
      refine ⟨_, rfl, .inl ⟨rfl, _, SqL.of hd3⟩, _, rfl, _, rfl, _, _, rfl, rfl, ⟨by decide, by decide, bk⟩, l, _, rfl, lf3, ?_, ?_, fun b H4 b0 bl' sb4 lf4 => ⟨_, _, rfl, rfl, ?_⟩⟩
      · rw [e18']; decide
      · rw [e18']; exact b9
      rw [e18'] at bl' tl
      refine ⟨1 + t, 1 + b, rfl, by omega, by omega, b9 (by omega) (by omega), fun p H5 s5 hp5 hp5' => ?_⟩
      have hd4 := sb4 _ _ dl hd3
      have hd5 := s5 _ _ hd4
      have pd : p ≠ d := fun e => by rw [e, hd4] at hp5; cases hp5
      refine ⟨d, rs, _, rfl, rfl, hd5, small1000 (by omega), ?_⟩
      refine ⟨rs ++ [.ref p], _, _, rfl, same_own ((same_smb (same_smb s3 sb3 hl) sb4 hl).trans s5) hd0, (lf4.keep s5).own dl, upd_same, by rw [List.length_append, rl]; rfl, ?_⟩
      refine ((((rm.keep (sb3.tk lf2)).keep (sb4.tk lf3)).keep s5.tk).keep (Tk.lst hd5)).add (by rw [upd_ne pd]; exact hp5') (low_rm (by omega) (by omega) (bt_lt 100 (c := 2000000000000000000) (by omega) (by omega)) (bt_lt 100 (c := 2000000000000000000) (by omega) (by omega)))
    · rintro σ H2 ⟨rs, v4, v5, rfl, s3, lf2, hd2, rl, rm⟩
      have rl1 : 1 ≤ rs.length := by omega
      have rl16 : rs.length ≤ 16 := by omega
      refine ⟨(by show 0 ≤ sizeLine; decide), fun g hg => ?_⟩
      have hg0 : H g = none := same_none s3 hg
      have gd : g ≠ d := fun e => by rw [e, hd2] at hg; cases hg
      have s4 := s3.trans (Same.upd (o := .lst []) hg)
      refine ⟨_, rfl, a, ns, 2, rfl, s4.seq ha, by decide, fun c' => ⟨c', rfl, (by show 1 ≤ sizeLine; decide), fun l2 hl2 => ?_⟩⟩
      have c0' := abs_nonneg c'
      generalize (if c' < 0 then -c' else c') = n' at *
      have s5 := s4.trans (Same.upd (o := .lst [.int n']) hl2)
      have hl20 : H l2 = none := same_none s4 hl2
      have lg : l2 ≠ g := fun e => by rw [e, upd_same] at hl2; cases hl2
      have ld : l2 ≠ d := fun e => by rw [e, Same.upd hg _ _ hd2] at hl2; cases hl2
      refine ⟨_, rfl, w, ws, rfl, s5.seq hw, by have := six0.l; omega, fun z ss pm st hz => ?_⟩
      have six := Six.of six0 pm st
      have hz0 : H z = none := same_none s5 hz
      have zl : z ≠ l2 := fun e => by rw [e, upd_same] at hz; cases hz
      have zg : z ≠ g := fun e => by rw [e, Same.upd hl2 _ _ upd_same] at hz; cases hz
      have zd : z ≠ d := fun e => by rw [e, Same.upd hl2 _ _ (Same.upd hg _ _ hd2)] at hz; cases hz
      have s6 := s5.trans (Same.upd (o := .lst (ss.map V.str)) hz)
      refine ⟨6, rfl, by decide, by decide, ?_⟩
      refine for_range (fun i σ H' => ∃ (us : List V) (qs : List (Nat × Nat)) (v4 v8 : Option V), σ = [some (.ref a), some (.ref w), some (.ref l2), some (.ref d), v4, v5, some (.ref g), some (.ref z), v8] ∧ Same H H' ∧ Lf H' l2 ∧ H' d = some (.lst rs) ∧ RmsT H' rs ∧ H' g = some (.lst us) ∧ H' z = some (.lst (ss.map V.str)) ∧ PsT H' us (qs.map (prS ss)) ∧ Qs qs i 0 ∧ qs.length ≤ 5 * min i 5)
        ⟨[], [], _, none, rfl, s6, ⟨n', Same.upd hz _ _ upd_same, c0'⟩, Same.upd hz _ _ (Same.upd hl2 _ _ (Same.upd hg _ _ hd2)), ((rm.keep (Same.upd hg).tk).keep (Same.upd hl2).tk).keep (Same.upd hz).tk, Same.upd hz _ _ (Same.upd hl2 _ _ upd_same), upd_same, PsT.nil, Qs.nil, by decide⟩ ?_ ?_
      · rintro j σ H3 hj ⟨us, qs, v4, v8, rfl, s7, lf3, hd3, rm3, hg3, hz3, pt, hq, ql⟩
        have hj6 : j < 6 := hj
        refine ⟨_, rfl, _, _, rfl, rfl, _, _, rfl, by omega, ?_⟩
        refine for_range (fun i σ H' => ∃ (us : List V) (qs : List (Nat × Nat)) (v4 : Option V), σ = [some (.ref a), some (.ref w), some (.ref l2), some (.ref d), v4, v5, some (.ref g), some (.ref z), some (.int (0 + j))] ∧ Same H H' ∧ Lf H' l2 ∧ H' d = some (.lst rs) ∧ RmsT H' rs ∧ H' g = some (.lst us) ∧ H' z = some (.lst (ss.map V.str)) ∧ PsT H' us (qs.map (prS ss)) ∧ Qs qs j (j + 1 + i) ∧ qs.length ≤ 5 * min j 5 + i)
          ⟨us, qs, v4, rfl, s7, lf3, hd3, rm3, hg3, hz3, pt, ⟨hq.pw, fun q h => by have := hq.rg q h; omega⟩, by omega⟩ ?_ ?_
        · rintro i σ H4 hi ⟨us, qs, v4, rfl, s8, lf4, hd4, rm4, hg4, hz4, pt, hq, ql⟩
          have hi6 : j + 1 + i < 6 := by omega
          refine ⟨_, rfl, l2, 2, rfl, lf4, by decide, b9, fun m H5 m0 ml sb5 lf5 => ?_⟩
          have s9 := same_smb s8 sb5 hl20
          have hd5 := sb5 _ _ (Ne.symm ld) hd4
          have hg5 := sb5 _ _ (Ne.symm lg) hg4
          have hz5 := sb5 _ _ zl hz4
          have rm5 := rm4.keep (sb5.tk lf4)
          have pt5 := pt.keep (sb5.tk lf4)
          refine ⟨rfl, _, rfl, ite2 (fun _ => ?_) (fun _ => ?_)⟩
          · refine ⟨_, rfl, .inl ⟨rfl, _, SqL.of hg5⟩, _, rfl, _, rfl, z, _, _, _, rfl, rfl, SqL.of hz5, at_six six (i := j) hj6 (by omega), _, rfl, _, rfl, z, _, _, _, rfl, rfl, SqL.of hz5, at_six six (i := j + 1 + i) hi6 (by omega), (by show 2 ≤ sizeLine; decide), fun q hq' => ?_⟩
            have qg : q ≠ g := fun e => by rw [e, hg5] at hq'; cases hq'
            have ul : us.length = qs.length := by rw [pt.1, List.length_map]
            have e1 : (upd H5 q (.tup [.str (ss.getD j ""), .str (ss.getD (j + 1 + i) "")])) g = some (.lst us) := Same.upd hq' _ _ hg5
            refine ⟨g, us, _, rfl, rfl, e1, small1000 (by omega), us ++ [.ref q], qs ++ [(j, j + 1 + i)], _, rfl, same_own (s9.trans (Same.upd hq')) hg0, (lf5.keep (Same.upd hq')).own (Ne.symm lg), ?_, (rm5.keep (Same.upd hq').tk).keep (Tk.lst e1), upd_same, ?_, ?_, hq.add (by omega) hi6, by rw [List.length_append, List.length_singleton]; omega⟩
            · rw [upd_ne (Ne.symm gd)]
              exact Same.upd hq' _ _ hd5
            · rw [upd_ne zg]
              exact Same.upd hq' _ _ hz5
            · rw [List.map_append]
              refine ((pt5.keep (Same.upd hq').tk).keep (Tk.lst e1)).add ?_
              rw [upd_ne qg]
              exact upd_same
          · exact ⟨us, qs, _, rfl, s9, lf5, hd5, rm5, hg5, hz5, pt5, hq.more, by omega⟩
        · rintro σ H4 ⟨us, qs, v4, rfl, s8, lf4, hd4, rm4, hg4, hz4, pt, hq, ql⟩
          exact ⟨us, qs, _, _, rfl, s8, lf4, hd4, rm4, hg4, hz4, pt, hq.next, by omega⟩
      · rintro σ H3 ⟨us, qs, v4, v8, rfl, s7, lf3, hd3, rm3, hg3, hz3, pt, hq, ql⟩
        refine ⟨_, rfl, d, rs, rfl, .inl ⟨SqL.of hd3, fun r hr' => ?_⟩⟩
        have t1 := Same.upd (o := .tup rs) hr'
        refine ⟨_, rfl, g, us, rfl, .inl ⟨SqL.of (t1 _ _ hg3), fun q hq' => ⟨(by show 2 ≤ sizeLine; decide), fun p hp => ?_⟩⟩⟩
        have t2 := Same.upd (o := .tup us) hq'
        have t3 := Same.upd (o := .tup [.ref r, .ref q]) hp
        refine k p r q rs us _ _ (((s7.trans t1).trans t2).trans t3) ⟨upd_same, t3 _ _ (t2 _ _ upd_same), ((rm3.keep t1.tk).keep t2.tk).keep t3.tk, rl1, rl16, t3 _ _ upd_same, ((pt.keep t1.tk).keep t2.tk).keep t3.tk, hq.good six (by omega)⟩
end
end K36

namespace K36
open PySem PySem.Spec PyProof.Rows L2 GM TM
theorem pick_room {H : Hp} {q1 q2 q3 : Addr} {t1 t2 t3 b3 e : Int} (h0 : 0 ≤ e) (h : e < 3) (h1 : H q1 = some (.tup [.int t1, .int 1])) (r1 : Rm t1 1) (h2 : H q2 = some (.tup [.int t2, .int 1])) (r2 : Rm t2 1) (h3 : H q3 = some (.tup [.int t3, .int b3])) (r3 : Rm t3 b3) :
    ∃ q t b, atI [V.ref q1, V.ref q2, V.ref q3] e = some (.ref q) ∧ H q = some (.tup [.int t, .int b]) ∧ Rm t b := by
  obtain ⟨n, rfl⟩ := Int.eq_ofNat_of_zero_le h0
  have : n = 0 ∨ n = 1 ∨ n = 2 := by omega
  rcases this with rfl | rfl | rfl
  · exact ⟨q1, _, _, rfl, h1, r1⟩
  · exact ⟨q2, _, _, rfl, h2, r2⟩
  · exact ⟨q3, _, _, rfl, h3, r3⟩
section
variable {P : Program} {w : World} {K : PySem.W.Frag} {mg : Str → Option Value} {base : Heap}
theorem scBench : FnScope ["_law_script", "_law_wares_here", "_law_number", "_law_many", "_law_rooms", "_law_k", "_law_drawn"] ["_law_script", "_law_wares_here"] (defScope sBench) := ⟨rfl, rfl, rfl, by decide +kernel, rfl, by decide +kernel, by decide +kernel⟩
theorem ok_bench {f : Addr} {fd : FuncData} (F : Fun K "_law_bench" "_law_bench" sBench f fd) (T : Txt mg) (cC : Cal P w K mg base CX0 2 "_law_cell_at" ["_law_script", "_law_k"] (spCell K)) (cF : Cal P w K mg base CX0 2 "_law_free_bench" ["_law_script", "_law_wares_here"] (spBench K)) (cM : Cal P w K mg base CX0 2 "_law_mixed" ["_law_cell", "_law_k"] spMixed) (cU : Cal P w K mg base CX0 2 "_law_much" ["_law_number"] spMuch) (cA : Cal P w K mg base CX0 2 "_law_apart" ["_law_wares_here", "_law_cell", "_law_often"] (spApart K)) : FnOk P w K mg base CX0 3 f fd ["_law_script", "_law_wares_here"] (spBench K) := by
  refine F.ok scBench (fun vs H Q E h => ?_) (fun cdv A outer s H vs Q E hr h => ?_)
  · obtain ⟨_, _, _, _, rfl, _⟩ := h
    rfl
  · obtain ⟨a, ns, w, ws, rfl, ha, hw, six0, k⟩ := h
    refine ⟨_, (pss_cons (ps_if (pt_cmpR op_eq (pe_op op_mod (pe_cal cC hr rfl pass0 (pa_cons (pv 0) (pa_cons pe_int pa_nil))) pe_int) pe_int (nomark _))
        (pss_one (ps_ret (pe_cal cF hr rfl pass0 (pa_cons (pv 0) (pa_cons (pv 1) pa_nil)))))
        pss_nil)
      (pss_cons (ps_set (i := 2) scBench.nd rfl (Or.inl rfl) (pe_cal cM hr rfl pass0 (pa_cons (pe_cal cC hr rfl pass0 (pa_cons (pv 0) (pa_cons pe_int pa_nil))) (pa_cons pe_int pa_nil))))
      (pss_cons (ps_set (i := 3) scBench.nd rfl (Or.inl rfl) (pe_op op_add pe_int (pe_op op_mod (pv 2) (pe_ix ix_list (pe_lst (pa_cons pe_int (pa_cons pe_int (pa_cons pe_int (pa_cons pe_int pa_nil))))) (pe_op op_mod (pe_op op_fdivB (pv 2) pe_int) pe_int) (fun _ _ => rfl)))))
      (pss_cons (ps_set (i := 4) scBench.nd rfl (Or.inl rfl) (pe_lst pa_nil))
      (pss_cons (ps_for PassesOwn.never rfl (pi_range1 rfl T.range (pa_cons (pv 3) pa_nil)) (pg_name (i := 5) scBench.nd rfl (Or.inl rfl))
        (pss_cons (ps_set (i := 6) scBench.nd rfl (Or.inl rfl) (pe_cal cM hr rfl pass0 (pa_cons (pe_cal cC hr rfl pass0 (pa_cons (pv 0) (pa_cons pe_int pa_nil))) (pa_cons (pe_op op_add (pv 5) pe_int) pa_nil))))
        (pss_one (ps_expr (pe_bm PySem.F.plainAttrs_list PySem.F.slot_list_append PySem.F.type_list_append mt_append (pv 4) (pa_cons (pe_ix ix_list (pe_lst (pa_cons (pe_tup (pa_cons (pe_op op_add pe_int (pe_op op_mod (pe_op op_fdivB (pv 6) pe_int) pe_int)) (pa_cons pe_int pa_nil))) (pa_cons (pe_tup (pa_cons (pe_op op_powB pe_int pe_int) (pa_cons pe_int pa_nil))) (pa_cons (pe_cal cU hr rfl pass0 (pa_cons (pe_op op_fdivB (pv 6) pe_int) pa_nil)) pa_nil)))) (pe_op op_mod (pv 6) pe_int) (fun _ _ => rfl)) pa_nil))))))
      (pss_one (ps_ret (pe_tup (pa_cons (pe_callTy call_tuple_of rfl T.tup' bt_tuple (pa_cons (pv 4) pa_nil)) (pa_cons (pe_cal cA hr rfl pass0 (pa_cons (pv 1) (pa_cons (pe_cal cC hr rfl pass0 (pa_cons (pv 0) (pa_cons pe_int pa_nil))) (pa_cons (pe_op op_add pe_int (pe_op op_mod (pe_op op_fdivB (pv 2) pe_int) pe_int)) pa_nil)))) pa_nil)))))))))), ?_⟩
    refine ⟨_, rfl, a, ns, 0, rfl, ha, by decide, fun c => ⟨_, _, rfl, rfl, (by show (0 : Int) < 2; decide), rfl, _, rfl, ite2 (fun _ => ?_) (fun _ => ?_)⟩⟩
    · exact ⟨_, rfl, _, rfl, a, ns, w, ws, rfl, ha, hw, six0, k⟩
    refine ⟨_, rfl, a, ns, 1, rfl, ha, by decide, fun c1 => ⟨c1, 1, rfl, by decide, by decide, fun n n0 nl => ?_⟩⟩
    have e4 := emod_in (n / 16) (m := 4) (by decide)
    obtain ⟨m, hm, m1, m16⟩ := pick4 e4.1 e4.2
    have em := emod_in n (m := m) (by omega)
    refine ⟨_, rfl, (by show 4 ≤ sizeLine; decide), fun z hz => ⟨_, rfl, _, _, rfl, rfl, ⟨by decide, b9⟩, _, _, rfl, rfl, (by show (0 : Int) < 4; decide), z, _, _, _, rfl, rfl, SqL.of upd_same, hm, _, _, rfl, rfl, (by show 0 < m; omega), _, _, rfl, rfl, ?_⟩⟩
    have s1 : Same H (upd H z (.lst [.int 5, .int 5, .int 5, .int 16])) := Same.upd hz
    refine ⟨(by show 0 ≤ sizeLine; decide), fun d hd => ?_⟩
    have hd0 : H d = none := same_none s1 hd
    have s2 := s1.trans (Same.upd (o := .lst []) hd)
    refine ⟨_, rfl, _, rfl, by omega, by omega, ?_⟩
    refine for_range (fun i σ H' => ∃ (rs : List V) (v5 v6 : Option V), σ = [some (.ref a), some (.ref w), some (.int n), some (.int (1 + n % m)), some (.ref d), v5, v6] ∧ Same H H' ∧ H' d = some (.lst rs) ∧ rs.length = i ∧ RmsT H' rs)
      ⟨[], none, none, rfl, s2, upd_same, rfl, RmsT.nil⟩ ?_ ?_
    · rintro i σ H2 hi ⟨rs, v5, v6, rfl, s3, hd2, rl, rm⟩
      refine ⟨_, rfl, a, ns, 1, rfl, s3.seq ha, by decide, fun c2 => ⟨_, rfl, _, _, rfl, rfl, c2, _, rfl, by omega, by omega, fun g g0 gl => ?_⟩⟩
      have e40 := emod_in (g / 8) (m := 40) (by decide)
      have e3 := emod_in g (m := 3) (by decide)
      have g8 : 0 ≤ g / 8 := Int.ediv_nonneg g0 (by decide)
      have g8l : g / 8 < 2147483647 := Int.lt_of_le_of_lt (Int.ediv_le_self _ g0) gl
      refine ⟨_, rfl, .inl ⟨rfl, _, SqL.of hd2⟩, _, rfl, _, _, rfl, rfl, ⟨by decide, b9⟩, _, _, rfl, rfl, (by show (0 : Int) < 40; decide), _, _, rfl, rfl, (by show 2 ≤ sizeLine; decide), fun q1 h1 => ?_⟩
      have t1 := Same.upd (o := .tup [.int (1 + g / 8 % 40), .int 1]) h1
      refine ⟨_, _, rfl, rfl, ⟨by decide, by decide, bk⟩, (by show 2 ≤ sizeLine; decide), fun q2 h2 => ?_⟩
      have t2 := Same.upd (o := .tup [.int ((10 : Int) ^ Int.toNat 18), .int 1]) h2
      refine ⟨_, rfl, _, _, rfl, rfl, ⟨by decide, b9⟩, g / 8, rfl, g8, g8l, fun t b q3 H3 r3 t3 h3 h3' => ⟨(by show 3 ≤ sizeLine; decide), fun y hy => ?_⟩⟩
      have t4 := Same.upd (o := .lst [.ref q1, .ref q2, .ref q3]) hy
      have tt := ((t1.trans t2).trans t3).trans t4
      obtain ⟨q, t', b', hq, hq', rq⟩ := pick_room e3.1 e3.2 (t4 _ _ (t3 _ _ (t2 _ _ upd_same))) (rm_one (by omega) (bt_lt 100 (c := 2000000000000000000) (by omega) (by omega))) (t4 _ _ (t3 _ _ upd_same)) (rm_one (by rw [e18]; decide) (by rw [e18]; exact bt_lt 100 (c := 2000000000000000000) (by decide) (by decide))) (t4 _ _ h3') r3
      have hd3 := tt _ _ hd2
      have qd : q ≠ d := fun e => by rw [e, hd3] at hq'; cases hq'
      refine ⟨_, rfl, _, _, rfl, rfl, (by show (0 : Int) < 3; decide), y, _, _, _, rfl, rfl, SqL.of upd_same, hq, d, rs, _, rfl, rfl, hd3, small1000 (by omega), ?_⟩
      exact ⟨rs ++ [.ref q], _, _, rfl, same_own (s3.trans tt) hd0, upd_same, by rw [List.length_append, rl]; rfl, ((rm.keep tt.tk).keep (Tk.lst hd3)).add (by rw [upd_ne qd]; exact hq') rq⟩
    · rintro σ H2 ⟨rs, v5, v6, rfl, s3, hd2, rl, rm⟩
      have e60 := emod_in (n / 64) (m := 60) (by decide)
      refine ⟨_, rfl, d, rs, rfl, .inl ⟨SqL.of hd2, fun r hr' => ?_⟩⟩
      have t1 := Same.upd (o := .tup rs) hr'
      refine ⟨_, rfl, _, rfl, a, ns, 2, rfl, (s3.trans t1).seq ha, by decide, fun c3 => ⟨_, rfl, _, _, rfl, rfl, ⟨by decide, b9⟩, _, _, rfl, rfl, (by show (0 : Int) < 60; decide), _, _, rfl, rfl, ?_⟩⟩
      refine ⟨w, ws, c3, _, rfl, (s3.trans t1).seq hw, six0, by omega, fun q us ps H3 t2 hq0 hq pt g => ⟨(by show 2 ≤ sizeLine; decide), fun p hp => ?_⟩⟩
      have t3 := Same.upd (o := .tup [.ref r, .ref q]) hp
      exact k p r q rs us ps _ (((s3.trans t1).trans t2).trans t3) ⟨upd_same, t3 _ _ (t2 _ _ upd_same), ((rm.keep t1.tk).keep t2.tk).keep t3.tk, by omega, by omega, t3 _ _ hq, pt.keep t3.tk, g⟩
end
end K36

namespace L2
open PySem PySem.Spec PyProof.Rows
/-! ### for over range(a, b, c) -/
def Itr3 (lo c : Int) (n : Nat) : It := ⟨fun i _ => i < n, fun i H x H' => H' = H ∧ x = .int (lo + (i : Nat) * c), fun i _ => n ≤ i⟩
def iRng3 (ta : TA) : TI := fun σ H R => ta σ H fun vs H1 => ∃ i j c : Int, vs = [.int i, .int j, .int c] ∧ (-(2 ^ 20) ≤ i ∧ i ≤ 2 ^ 20 ∧ -(2 ^ 20) ≤ j ∧ j ≤ 2 ^ 20 ∧ 0 < c ∧ c ≤ 2 ^ 20) ∧ R (Itr3 i c (if i < j then (j - i - 1) / c + 1 else 0).toNat) H1
end L2

namespace L2
open PySem PySem.Spec PyProof.Rows
/-! ### sorted(xs, reverse=True) of ints -/
def tSortR (K : PySem.W.Frag) (te : TE) : TE := fun σ H Q => te σ H fun x H1 => ∃ (a : Addr) (ns : List Int), x = .ref a ∧ SqL K H1 a (ns.map V.int) ∧ ns.length < 64 ∧
  ∀ (p : Addr) (ns' : List Int), ns'.Perm ns → ns'.Pairwise (· ≥ ·) → H1 p = none → Q (.ref p) (upd H1 p (.lst (ns'.map V.int)))
/-! ### for over reversed(range(n)) -/
abbrev rngObj (n : Int) (t u v : Tok) : Obj := { cls := .type "range", data := .fields #[.int 0 t, .int n u, .int 1 v] }
abbrev rngIt (n : Int) : Obj := { cls := .type "range_iterator", data := .fields #[rawInt (n - 1), rawInt n, rawInt (-1)] }
section
variable {prog : Program} {w : World} {A : Around} {E : Value → Shared → Prop} {s : Shared}
end
def iRev (ta : TA) : TI := fun σ H R => ta σ H fun vs H1 => ∃ n : Int, vs = [.int n] ∧ 0 ≤ n ∧ n < 2 ^ 62 ∧ R (Itr3 (n - 1) (-1) n.toNat) H1
end L2

namespace L2
open PySem PySem.Spec PyProof.Rows
/-! ### for over reversed(a list) -/
def Itv (K : PySem.W.Frag) (a : Addr) (n : Nat) : It :=
  ⟨fun i H => ∃ xs, SqL K H a xs ∧ xs.length = n ∧ i < n, fun i H x H' => H' = H ∧ ∀ xs, SqL K H a xs → xs[n - 1 - i]? = some x, fun i H => n ≤ i⟩
def iRevL (K : PySem.W.Frag) (ta : TA) : TI := fun σ H R => ta σ H fun vs H1 => ∃ a xs, vs = [.ref a] ∧ SqL K H1 a xs ∧ R (Itv K a xs.length) H1
end L2

namespace L2
open PySem PySem.Spec PyProof.Rows
end L2

namespace L2
open PySem PySem.Spec PyProof.Rows
end L2

namespace L2
open PySem PySem.Spec PyProof.Rows PySem.W
/-- a def of the text that may be called by its name with its last argument left out -/
structure Cal1 (P : Program) (w : World) (K : Frag) (mg : Str → Option Value) (base : Heap) (CX : CXT) (k : Nat) (x : Str) (ps : List Str) (sp : Sp) (dv : V) : Prop where
  ex : ∃ (f : Addr) (fd : FuncData) (u : Value), mg x = some (.ref f) ∧ keepIn K (.ref f) = true ∧ Binds K fd ps [u] ∧ RelV dv u ∧ FnOk P w K mg base CX k f fd ps sp
end L2

namespace L2
open PySem PySem.Spec PyProof.Rows
/-! ### loops whose turns know nothing of what comes behind -/
theorem for_rangeN {lo : Int} {n : Nat} {g : TG} {tb : TS} {D : Ends} {σ : St} {H : Hp} (Pv : Nat → St → Hp → Prop) (h0 : Pv 0 σ H)
    (hs : ∀ i σ H (D' : Ends), (∀ σ' H', Pv (i + 1) σ' H' → D'.nx σ' H') → i < n → Pv i σ H → g (.int (lo + i)) σ H (tb D')) (hd : ∀ σ H, Pv n σ H → D.nx σ H) :
    ∃ W : Nat → Nat → St → Hp → Prop, (∃ m, W 0 m σ H) ∧ ∀ i m σ H, W i m σ H →
      ((Itr lo n).stop i H ∧ D.nx σ H) ∨ ((Itr lo n).go i H ∧ ∃ N : St → Hp → Prop, (∀ σ' H', N σ' H' → ∃ m', m' < m ∧ W (i + 1) m' σ' H') ∧ ∀ x H', (Itr lo n).yld i H x H' → g x σ H' fun σ2 H2 => tb { D with nx := N, ct := N, bk := D.nx } σ2 H2) :=
  for_range Pv h0 (fun i σ H hi p => hs i σ H { D with nx := Pv (i + 1), ct := Pv (i + 1), bk := D.nx } (fun _ _ h => h) hi p) hd
end L2

namespace L2
open PySem PySem.Spec PyProof.Rows PySem.W
/-- a def of the text that may be called by its name with keywords -/
structure CalK (P : Program) (w : World) (K : Frag) (mg : Str → Option Value) (base : Heap) (CX : CXT) (k : Nat) (x : Str) (ps ks : List Str) (gV : List V → List V → List V) (sp : Sp) : Prop where
  ex : ∃ (f : Addr) (fd : FuncData) (g : List Value → List Value → List Value), mg x = some (.ref f) ∧ keepIn K (.ref f) = true ∧ KBinds K fd ps ks g gV ∧ FnOk P w K mg base CX k f fd ps sp
section
variable {X : Cx}
end
end L2

namespace L2
open PySem PySem.Spec PyProof.Rows PySem.W
end L2

namespace K36
open PySem PySem.Spec PyProof.Rows L2 GM TM
def spIsWare (K : PySem.W.Frag) : Sp := fun vs H Q _ => ∃ v, vs = [v] ∧ ((IsiD K H v "str" false ∧ Q (.bl false) H) ∨ ∃ x : Str, v = .str x ∧ x.length ≤ 1000 ∧ (Wr x → ∀ H', Same H H' → Q (.bl true) H') ∧ (¬ Wr x → ∀ H', Same H H' → Q (.bl false) H'))
section
variable {P : Program} {w : World} {K : PySem.W.Frag} {mg : Str → Option Value} {base : Heap}
theorem nd1 : (["sign"] : List Str).Nodup := by decide +kernel
theorem let_mem (c : Nat) : (!(Builtin.Str.occurrences LET ⟨#[c]⟩ 0 LET.length 1).isEmpty) = decide (97 ≤ c ∧ c ≤ 122) := by
  rw [StrLaws.found_one]
  have e : LET.cps.toList = (List.range 26).map (97 + ·) := by decide +kernel
  rw [e]
  refine decide_eq_decide.mpr ⟨fun h => ?_, fun h => ?_⟩
  · obtain ⟨j, hj, rfl⟩ := List.mem_map.mp h
    have := List.mem_range.mp hj
    omega
  · exact List.mem_map.mpr ⟨c - 97, List.mem_range.mpr (by omega), by omega⟩
theorem scIsWare : FnScope ["thing"] ["thing"] (defScope sIsWare) := ⟨rfl, rfl, rfl, by decide +kernel, rfl, by decide +kernel, by decide +kernel⟩
theorem ok_isware {f : Addr} {fd : FuncData} {tk tk' : Tok} (F : Fun K "is_ware" "is_ware" sIsWare f fd) (T : Txt mg) (mM : mg "MOST_LETTERS" = some (.int 8 tk)) (mL : mg "LETTERS" = some (.str LET tk')) : FnOk P w K mg base CX0 1 f fd ["thing"] (spIsWare K) := by
  refine F.ok scIsWare (fun vs H Q E h => ?_) (fun cdv A outer s H vs Q E hr h => ?_)
  · obtain ⟨_, rfl, _⟩ := h
    rfl
  · obtain ⟨v, rfl, h⟩ := h
    refine ⟨_, (pss_cons (ps_if (pt_not (pt_val (pe_callB call_isiZ rfl T.isi boot_isinstance (pa_cons (pv 0) (pa_cons (pe_bltn (v := .ty "str") rfl T.str' bt_str rfl) pa_nil)))))
        (pss_one (ps_ret pe_bl)) pss_nil)
      (pss_one (ps_ret (pe_and (pe_chain op_le op_le pe_int (pe_callB call_len_str rfl T.len PySem.boot_len (pa_cons (pv 0) pa_nil)) (pe_glob (v := .int 8) rfl mM ⟨_, rfl⟩)) (pe_one (pe_callB (call_allB rfl) rfl T.all' boot_all (pa_cons (pe_comp (N' := ["sign"]) (cl := []) (fun _ => [none]) rfl rfl (by decide +kernel) (by decide +kernel) (clOk_plain (by decide +kernel)) (fun _ _ => blkN_none)
            (pi_str (pv 0)) (fun _ _ _ _ _ => pg_name (i := 0) nd1 rfl (Or.inl rfl)) (fun _ _ _ _ _ => pifs_nil) (fun _ _ _ _ _ => pe_cmpR op_in_str (pv 0) (pe_glob (v := .str LET) rfl mL ⟨_, rfl⟩) rfl)) pa_nil))))))), ?_⟩
    rcases h with ⟨hi, hb⟩ | ⟨x, rfl, hl, kT, kF⟩
    · exact ⟨_, rfl, v, "str", false, rfl, hi, _, rfl, iteT hb⟩
    · have hz := sz1000 hl
      have le := lenC x
      refine ⟨_, rfl, _, "str", true, rfl, .inl .str_str, _, rfl, iteF ?_⟩
      refine ⟨_, rfl, x, rfl, hz, _, _, rfl, rfl, _, rfl, ite2 (fun h1 => ?_) (fun h1 => ?_)⟩
      · have h1' : (1 : Int) ≤ (x.length : Int) := of_decide_eq_true h1
        refine ⟨_, _, rfl, rfl, _, rfl, ?_⟩
        by_cases h2 : (x.length : Int) ≤ 8
        · rw [decide_eq_true h2]
          refine iteT ⟨_, rfl, x, rfl, fun D hD => ?_⟩
          refine comp_str (fun i ys H' => ys = ((cps x).take i).map (fun c => V.bl (decide (97 ≤ c ∧ c ≤ 122))) ∧ Same H H' ∧ H' D = some (.lst ys)) ⟨by simp, Same.upd hD, upd_same⟩ ?_ ?_ ?_
          · rintro i ys H' hi ⟨rfl, _, hD'⟩
            refine ⟨hD', ?_⟩
            rw [List.length_map, List.length_take]
            exact small1000 (by omega)
          · rintro i c ys H' hc ⟨rfl, sm, hD'⟩
            refine ⟨(Keep.refl _).set rfl, ?_⟩
            unfold tNoIf
            dsimp only
            rw [if_pos rfl]
            refine ⟨_, rfl, _, _, rfl, rfl, hD', Nx.mk (List.getElem?_eq_some_iff.mp hc).1 ⟨?_, fun b o hb => ?_, upd_same⟩⟩
            · rw [let_mem, List.take_add_one, hc, List.map_append]
              rfl
            · have ne : b ≠ D := fun z => by rw [z, hD] at hb; cases hb
              rw [upd_ne ne]
              exact sm b o hb
          · rintro ys H' ⟨rfl, sm, hD'⟩
            rw [List.take_of_length_le (Nat.le_refl _)] at hD'
            refine ⟨D, (cps x).map (fun c => decide (97 ≤ c ∧ c ≤ 122)), rfl, SqL.of (by rw [List.map_map]; exact hD'), ?_⟩
            by_cases a : ∀ c ∈ cps x, 97 ≤ c ∧ c ≤ 122
            · have e : ((cps x).map (fun c => decide (97 ≤ c ∧ c ≤ 122))).all id = true := by
                rw [List.all_map, List.all_eq_true]
                exact fun c hc => decide_eq_true (a c hc)
              rw [e]
              exact kT ⟨by omega, by omega, a⟩ _ sm
            · have e : ((cps x).map (fun c => decide (97 ≤ c ∧ c ≤ 122))).all id = false := by
                rw [Bool.eq_false_iff, Ne, List.all_map, List.all_eq_true]
                exact fun h => a fun c hc => of_decide_eq_true (h c hc)
              rw [e]
              exact kF (fun z => a z.lt) _ sm
        · rw [decide_eq_false h2]
          exact iteF (kF (fun z => h2 (by have := z.l8; omega)) _ (Same.refl _))
      · have h1' : ¬ (1 : Int) ≤ (x.length : Int) := fun z => h1 (decide_eq_true z)
        exact ⟨_, rfl, iteF (kF (fun z => h1' (by have := z.l1; omega)) _ (Same.refl _))⟩
end
end K36

namespace L2
open PySem PySem.Spec PyProof.Rows
/-! ### for i, x in enumerate(xs), xs a list -/
/-- the i-th item of a list and i, in a new tuple -/
def Ite (K : PySem.W.Frag) (b : Addr) : It :=
  ⟨fun i H => ∃ ys, SqL K H b ys ∧ i < ys.length,
   fun i H v H' => ∃ T, H T = none ∧ v = .ref T ∧ ∀ ys, SqL K H b ys → ∃ y, ys[i]? = some y ∧ H' = upd H T (.tup [.int i, y]),
   fun i H => ∃ ys, SqL K H b ys ∧ i = ys.length⟩
/-- an enumerate's objects, laid one behind another from n on -/
def EnuSt (n b : Nat) (i : Nat) (h : Heap) : Prop := (∃ old, IsEnum h (n + 1) n (i : Int) old) ∧ h.IsListIter n b i
theorem turn_enum {P : Program} {w : World} {K : PySem.W.Frag} {es : List Expr} {k1 : Nat} {p1 : Pos} {n b : Nat} (hb : b < n) : Turn P w K (.Tuple es k1 p1) (Ite K b) [n + 1, n] (n + 1) (EnuSt n b) where
  mem := by simp
  obj := fun i h st c hc => by
    obtain ⟨⟨old, c1⟩, ⟨o5, d5, _, f5⟩⟩ := st
    have hc' : c = n + 1 ∨ c = n := by simpa using hc
    rcases hc' with e | e
    · subst e; exact ⟨_, c1, fun v z => by cases z⟩
    · subst e; exact ⟨_, d5, fun v z => by rw [f5] at z; cases z⟩
  keep := fun i h h' st k => by
    obtain ⟨⟨old, c1⟩, c5⟩ := st
    exact ⟨⟨old, k _ (by simp) _ c1⟩, c5.at fun o e => k _ (by simp) o e⟩
  item := by
    intro X hP hw hK hc i pins s σ H E I hf st hg
    subst hP hw hK
    obtain ⟨ys, hy, l2⟩ := hg
    obtain ⟨its', r2, ty, _⟩ := I.list hy
    have e2 := r2.length
    obtain ⟨⟨old, c1⟩, c5⟩ := st
    obtain ⟨vy, hvy⟩ : ∃ v, ys[i]? = some v := ⟨_, List.getElem?_eq_getElem l2⟩
    obtain ⟨uy, huy, ry⟩ := r2.get hvy
    refine wpAny_pyNext_enum_item (x := uy) c1 c5 (isList_of ty) (by rw [← Array.getElem?_toList, List.toList_toArray]; exact huy) (by show (_ : Nat) ≠ _; omega) fun g cz s2 cT sz kp => ⟨.ref s.heap.objs.size, rfl, ?_⟩
    refine wpAny_letOwnedTupleGo_enum (s := { s with heap := g, toks := s.toks + 1 }) cz fun g' cz' sb => ?_
    have hfr : H s.heap.objs.size = none := I.hok.fresh (Nat.le_refl _)
    have I0 : Inv X pins σ (upd H s.heap.objs.size (.tup [.int i, vy])) { s with heap := s.heap.push { cls := .type "tuple", data := .seq #[.int i s.toks, uy] }, toks := s.toks + 1 } :=
      I.laid (fun c u q => Heap.get?_push_of_some _ q) (Nat.le_refl _) ⟨by show 2 ≤ sizeLine; decide, [.int i s.toks, uy], .cons ⟨_, rfl⟩ (.cons ry .nil), ⟨_, Heap.get?_push_size s.heap rfl, rfl, _, rfl⟩⟩
    have lz : n + 1 < s.heap.objs.size := Heap.lt_size c1
    have fpn : ∀ c ∈ [n + 1, n], c ≠ s.heap.objs.size := fun c hc' => by
      have hc'' : c = n + 1 ∨ c = n := by simpa using hc'
      rcases hc'' with e | e <;> (subst e; exact Nat.ne_of_lt (by omega))
    have hf0 : ∀ c ∈ [n + 1, n], FpOk X pins (upd H s.heap.objs.size (.tup [.int i, vy])) c := fun c hc' => ⟨by rw [upd_ne (fpn c hc')]; exact (hf c hc').1, (hf c hc').2⟩
    have I1 : Inv X pins σ (upd H s.heap.objs.size (.tup [.int i, vy])) { s with heap := g', toks := s.toks + 1 } := by
      refine Inv.turnedL (s := { s with heap := s.heap.push { cls := .type "tuple", data := .seq #[.int i s.toks, uy] }, toks := s.toks + 1 }) (h' := g') (t' := s.toks + 1) (ch := [n + 1, n]) I0 (fun c o hc' e => ?_) hf0
      replace e : (s.heap.push { cls := .type "tuple", data := .seq #[.int i s.toks, uy] }).get? c = some o := e
      have hn : ∀ d ∈ [n + 1, n], c ≠ d := fun d hd z => hc' (by rw [z]; exact hd)
      refine sb.extBut _ _ (hn _ (by simp)) ?_
      by_cases ec : c = s.heap.objs.size
      · rw [ec] at e ⊢
        rw [Heap.get?_push_size s.heap rfl] at e
        cases e
        exact cT
      · rw [Heap.get?_push_ne _ _ _ ec] at e
        exact kp c o (hn _ (by simp)) (hn _ (by simp)) e
    refine ⟨.ref s.heap.objs.size, _, I1, rfl, ⟨_, hfr, rfl, fun ys' hy' => ⟨vy, by rw [I.list_inj hy' hy]; exact hvy, rfl⟩⟩, ?_, fun c hc' => (hf0 c hc').1⟩
    exact ⟨⟨uy, cz'⟩, s2.extBut sb.extBut (Nat.ne_of_lt (Nat.lt_succ_self n))⟩
  done := by
    intro X hP hw hK hc i pins s σ H E I hf st hg
    subst hP hw hK
    obtain ⟨ys, hy, l⟩ := hg
    obtain ⟨its', r2, ty, _⟩ := I.list hy
    have e2 := r2.length
    obtain ⟨⟨old, c1⟩, c5⟩ := st
    have hh : X.A.handled = none := I.ok.hd hc
    refine wpAny_pyNext_enum_end hh c1 c5 (isList_of ty) (by rw [← Array.getElem?_toList, List.toList_toArray]; exact List.getElem?_eq_none (by omega)) fun g kp => ⟨rfl, I.turnedL (t' := s.toks) (ch := [n + 1, n]) (fun c o hc' e => ?_) hf⟩
    exact kp c o (fun z => hc' (by rw [z]; simp)) e
  self := fun _ _ _ _ _ st h => let ⟨⟨_, c1⟩, _⟩ := st; wpAny_pyIter_enum c1 h
def iEnu (K : PySem.W.Frag) (ta : TA) : TI := fun σ H R => ta σ H fun vs H1 => ∃ b, vs = [.ref b] ∧ (∃ ys, SqL K H1 b ys) ∧ R (Ite K b) H1
theorem bt_enumerate : bootBuiltins "enumerate" = some (.type "enumerate") := by decide +kernel
theorem pi_enum {X : Cx} {es : List Expr} {k1 : Nat} {p1 : Pos} {e1 : Expr} {ta : TA} {p pos : Pos} (hg : Gl X "enumerate") (hm : X.mg "enumerate" = none) (ha : PA X [e1] ta) (hs : starEach [e1] X.env = [(false, eval e1 X.env)] := by rfl) :
    PI X (.Tuple es k1 p1) (.Call (.Name "enumerate" p) [e1] [] pos) (iEnu X.K ta) := by
  intro pins s σ H R I h
  refine Call_ (ld_blt I hg hm bt_enumerate (PyProof.Rows.callWith_type1 (thn (ha pos pins s σ H _ I h) fun us s1 ⟨vs, H1, I1, r1, q1⟩ => ?_) hs rfl))
  obtain ⟨b, rfl, ⟨ys, hy⟩, q⟩ := q1
  cases r1 with
  | cons r rr =>
    cases rr
    cases r
    obtain ⟨its', _, ty, _⟩ := I1.list hy
    have lb : b < s1.heap.objs.size := by obtain ⟨o, e, _⟩ := isList_of ty; exact Heap.lt_size e
    refine call_enumerate_list (isList_of ty) fun g c1 c5 _ kp => wpAny_pyIter_enum c1 ?_
    have I2 : Inv X pins σ H1 { s1 with heap := g } := I1.kept (t' := s1.toks) kp
    refine ⟨s1.heap.objs.size + 1, _, _, _, H1, rfl, I2, turn_enum lb, ⟨⟨_, c1⟩, c5⟩, fun c hc => ?_, q⟩
    refine I1.fpOk ?_ (I1.hok.fresh ?_)
    all_goals
      have hc' : c = s1.heap.objs.size + 1 ∨ c = s1.heap.objs.size := by simpa using hc
      rcases hc' with e | e <;> (subst e; omega)
theorem for_enum {K : PySem.W.Frag} {b : Addr} {ys : List V} {g : TG} {tb : TS} {D : Ends} {σ : St} {H : Hp} (Pv : Nat → St → Hp → Prop) (h0 : Pv 0 σ H) (hl : ∀ i σ H, i ≤ ys.length → Pv i σ H → SqL K H b ys)
    (hs : ∀ i y T σ H, ys[i]? = some y → H T = none → Pv i σ H → g (.ref T) σ (upd H T (.tup [.int (i : Nat), y])) fun σ2 H2 => tb { D with nx := Pv (i + 1), ct := Pv (i + 1), bk := D.nx } σ2 H2) (hd : ∀ σ H, Pv ys.length σ H → D.nx σ H) :
    ∃ W : Nat → Nat → St → Hp → Prop, (∃ m, W 0 m σ H) ∧ ∀ i m σ H, W i m σ H →
      ((Ite K b).stop i H ∧ D.nx σ H) ∨ ((Ite K b).go i H ∧ ∃ N : St → Hp → Prop, (∀ σ' H', N σ' H' → ∃ m', m' < m ∧ W (i + 1) m' σ' H') ∧ ∀ v H', (Ite K b).yld i H v H' → g v σ H' fun σ2 H2 => tb { D with nx := N, ct := N, bk := D.nx } σ2 H2) := by
  refine ⟨fun i m σ H => m = ys.length - i ∧ i ≤ ys.length ∧ Pv i σ H, ⟨ys.length, by simp, Nat.zero_le _, h0⟩, ?_⟩
  rintro i m σ H ⟨rfl, hi, p⟩
  have q2 := hl i σ H hi p
  by_cases hlt : i < ys.length
  · refine .inr ⟨⟨ys, q2, hlt⟩, Pv (i + 1), fun σ' H' p' => ⟨ys.length - (i + 1), by omega, rfl, hlt, p'⟩, fun v H' y => ?_⟩
    obtain ⟨T, hT, rfl, y⟩ := y
    obtain ⟨y', e2, rfl⟩ := y ys q2
    exact hs i y' T σ H e2 hT p
  · have e : i = ys.length := by omega
    subst e
    exact .inl ⟨⟨ys, q2, rfl⟩, hd σ H p⟩
end L2

namespace HT
open PySem PySem.Spec PyProof.Rows
open AutoSeq1 (wpAny_loadPart')
section
variable {prog : Program} {w : World} {A : Around} {E : Value → Shared → Prop} {s : Shared}
end
end HT
namespace L2
open PySem PySem.Spec PyProof.Rows
/-! ### for i, x in enumerate(xs), xs a list -/
/-- the i-th item of a list and i, in a new tuple -/
def IteT (K : PySem.W.Frag) (b : Addr) : It :=
  ⟨fun i H => ∃ ys, SqT K H b ys ∧ i < ys.length,
   fun i H v H' => ∃ T, H T = none ∧ v = .ref T ∧ ∀ ys, SqT K H b ys → ∃ y, ys[i]? = some y ∧ H' = upd H T (.tup [.int i, y]),
   fun i H => ∃ ys, SqT K H b ys ∧ i = ys.length⟩
/-- an enumerate's objects, laid one behind another from n on -/
def EnuStT (n b : Nat) (i : Nat) (h : Heap) : Prop := (∃ old, IsEnum h (n + 1) n (i : Int) old) ∧ h.IsTupleIter n b i
def iEnuT (K : PySem.W.Frag) (ta : TA) : TI := fun σ H R => ta σ H fun vs H1 => ∃ b, vs = [.ref b] ∧ (∃ ys, SqT K H1 b ys) ∧ R (IteT K b) H1
end L2

namespace L2
open PySem PySem.Spec PyProof.Rows
theorem Same.seqt {K : PySem.W.Frag} {H H' : Hp} {a : Addr} {xs : List V} (e : Same H H') (h : SqT K H a xs) : SqT K H' a xs := by
  rcases h with h | h
  · rcases h with h | ⟨o, h⟩
    · exact .inl (.inl (e _ _ h))
    · exact .inl (.inr ⟨o, e _ _ h⟩)
  · exact .inr h
end L2

/-! a comprehension over zip(t, u); d.get(text) of a module's dict; != of two tuples of the same things; a method of one of several classes; isinstance of an instance -/
namespace L2
open PySem PySem.Spec PyProof.Rows
/-- [e for x, y in zip(t, u)] -/
theorem comp_zip2 {K : PySem.W.Frag} {a b : Addr} {xs ys : List V} {D : Addr} {g : TG} {te : TE} {σ0 : St} {QD : Hp → Prop} {H1 : Hp} (ha : SqT K H1 a xs) (hb : SqT K H1 b ys) (hn : xs.length = ys.length) (Pr : Nat → V → Prop) (hD : H1 D = none) (hl : ys.length ≤ 1000)
    (hs : ∀ (i : Nat) x y T Hx (R : VK), xs[i]? = some x → ys[i]? = some y → Same H1 Hx → Hx T = some (.tup [x, y]) → (∀ v H4, Same Hx H4 → Pr i v → R v H4) → g (.ref T) σ0 Hx fun σ2 H2 => Keep σ0 σ2 ∧ te σ2 H2 R)
    (hd : ∀ zs H', Same H1 H' → H' D = some (.lst zs) → zs.length = xs.length → (∀ (i : Nat) z, zs[i]? = some z → Pr i z) → QD H') :
    ∃ W : Nat → Nat → List V → Hp → Prop, (∃ m, W 0 m [] (upd H1 D (.lst []))) ∧ ∀ i m zs H, W i m zs H → H D = some (.lst zs) ∧ zs.length < sizeLine ∧
      (((Itz2 K a b).stop i H ∧ QD H) ∨ ((Itz2 K a b).go i H ∧ ∀ x H', (Itz2 K a b).yld i H x H' → g x σ0 H' fun σ2 H2 => Keep σ0 σ2 ∧ tNoIf σ2 H2 fun b H3 =>
        if b = true then te σ2 H3 fun y H4 => H4 D = some (.lst zs) ∧ ∃ m', m' < m ∧ W (i + 1) m' (zs ++ [y]) (upd H4 D (.lst (zs ++ [y]))) else ∃ m', m' < m ∧ W (i + 1) m' zs H3)) := by
  refine ⟨fun i m zs H => m = xs.length - i ∧ i ≤ xs.length ∧ Same H1 H ∧ H D = some (.lst zs) ∧ zs.length = i ∧ ∀ (j : Nat) z, zs[j]? = some z → Pr j z,
    ⟨_, rfl, Nat.zero_le _, Same.upd hD, upd_same, rfl, fun j z h => by simp at h⟩, ?_⟩
  rintro i m zs H ⟨rfl, hi, sm, hDH, zl, zp⟩
  refine ⟨hDH, small1000 (by omega), ?_⟩
  by_cases hlt : i < xs.length
  · refine .inr ⟨⟨xs, ys, sm.seqt ha, sm.seqt hb, hlt, by omega⟩, fun x H' y => ?_⟩
    obtain ⟨T, hT, rfl, y⟩ := y
    obtain ⟨x', y', e1, e2, rfl⟩ := y xs ys (sm.seqt ha) (sm.seqt hb)
    have st := Same.upd (o := .tup [x', y']) hT
    have := hs i x' y' T _ (fun y H4 => H4 D = some (.lst zs) ∧ ∃ m', m' < xs.length - i ∧ (m' = xs.length - (i + 1) ∧ i + 1 ≤ xs.length ∧ Same H1 (upd H4 D (.lst (zs ++ [y]))) ∧ (upd H4 D (.lst (zs ++ [y]))) D = some (.lst (zs ++ [y])) ∧ (zs ++ [y]).length = i + 1 ∧ ∀ (j : Nat) z, (zs ++ [y])[j]? = some z → Pr j z)) e1 e2 (sm.trans st) upd_same (fun v H4 s4 pv => ?_)
    · exact this
    · refine ⟨s4 _ _ (st _ _ hDH), xs.length - (i + 1), by omega, rfl, hlt, fun b o e => ?_, upd_same, by rw [List.length_append, zl]; rfl, fun j z hz => ?_⟩
      · rw [upd_ne (ne_of_none e hD)]
        exact s4 _ _ (st _ _ (sm _ _ e))
      · by_cases hj : j < zs.length
        · rw [List.getElem?_append_left hj] at hz
          exact zp j z hz
        · have jl := (List.getElem?_eq_some_iff.mp hz).1
          rw [List.length_append] at jl
          have jl' : j < zs.length + 1 := jl
          have ej : j = zs.length := by omega
          subst ej
          rw [List.getElem?_append_right (Nat.le_refl _), Nat.sub_self] at hz
          obtain rfl : v = z := by simpa using hz
          rw [zl]
          exact pv
  · have e : i = xs.length := by omega
    subst e
    exact .inl ⟨⟨xs, ys, sm.seqt ha, sm.seqt hb, .inl rfl⟩, hd zs H sm hDH zl zp⟩
/-- != of two tuples of the same things -/
def rNeTs (K : PySem.W.Frag) : R2 := fun x y H Q => ∃ a b xs, x = .ref a ∧ y = .ref b ∧ SqT K H a xs ∧ SqT K H b xs ∧ (∀ v ∈ xs, Sf v) ∧ Q (.bl false) H
theorem op_neTs {X : Cx} (hu : X.A.units + 64 < cLine) : OpR X (compareOp .NotEq) (rNeTs X.K) := by
  intro pins s σ H x y v u Q I rx ry h
  obtain ⟨a, b, xs, rfl, rfl, hx, hy, hs, q⟩ := h
  refine op_neT hu pins s σ H _ _ v u Q I rx ry ⟨a, b, xs, xs, fun _ => true, rfl, rfl, hx, hy, fun j x y h1 h2 => ?_, ?_⟩
  · rw [h1] at h2
    cases h2
    exact DEq.self (hs x (List.mem_of_getElem? h1))
  · rw [all_true _ _ rfl]
    exact q
section
variable {X : Cx} {pins : List (Addr × Obj)} {σ : St} {H : Hp} {s : Shared} {A : Around} {E : Value → Shared → Prop}
/-- a dict of the module with texts as keys -/
structure KDict (w : World) (K : PySem.W.Frag) (a : Addr) (f : Str → Option Addr) : Prop where
  lo : (a == sysModules) = false
  ex : ∃ es n, K.lookup a = some ⟨.type "dict", none, .dict es n, #[]⟩ ∧ PySem.W.KeysLit w.params es.toList ∧ ∀ x, findBy Value.isStrOf es x = (f x).map Value.ref
theorem kd_get1 {a : Addr} {f : Str → Option Addr} {x : Str} {t : Tok} {Q : Value → Shared → Prop} (D : KDict X.w X.K a f) (I : Inv X pins σ H s) (h : ∀ s', Inv X pins σ H s' → Q (((f x).map Value.ref).getD .none) s') :
    wpAny (model X.prog X.w) A (call (.builtin "dict.get") [.ref a, .str x t]) Q E s := by
  obtain ⟨es, n, hl, hk, hf⟩ := D.ex
  have hm := PySem.W.mapOf_K (prog := X.prog) (w := X.w) I.kIn hl hk
  have q : ∀ s', Inv X pins σ H s' → Q ((findBy Value.isStrOf es x).getD .none) s' := fun s' I' => by rw [hf x]; exact h s' I'
  exact call_meetsIn PySem.F.slot_dict_get hm.typeIs PySem.F.entry_dict_get (PySem.F.args_dict_get_2 _ _) (meets_dict_get (strKind X.prog X.w) a (strKind_is X.prog X.w x t) D.lo) ⟨_, hm, q _ (I.tok _)⟩
end
end L2

/-! ### a dict that was walked may change again; dict.update; min(one int, default=None) -/
namespace L2
open PySem PySem.Spec PyProof.Rows
def tThaw (H₀ : Hp) (te : TE) : TE := fun σ H Q => te σ H fun v H' => ∃ d ob kvs, H' d = some (.frz ob (.dK kvs)) ∧ (∀ o u, H₀ d ≠ some (.frz o u)) ∧ Q v (upd H' d (.dK kvs))
def rUpd : V → List V → Hp → VK → Prop := fun x vs H Q => ∃ d o kvs more, x = .ref d ∧ vs = [.ref o] ∧ d ≠ o ∧ H d = some (.dK kvs) ∧ H o = some (.dK more) ∧ kvs.length + more.length ≤ 1000 ∧ Q .non (upd H d (.dK (mergeK kvs more)))
section
variable {prog : Program} {w : World} {A : Around} {E : Value → Shared → Prop} {s : Shared}
end
end L2
namespace L2
open PySem PySem.Spec PyProof.Rows
def tMinD (te : TE) : TE := fun σ H Q => te σ H fun x H1 => ∃ l n, x = .ref l ∧ H1 l = some (.lst [.int n]) ∧ Q (.int n) H1
end L2

/-! ### methods, by their class; fields within a comprehension; a walked dict behind a statement -/
namespace L2
open PySem PySem.Spec PyProof.Rows
/-- a method of the class that may be called -/
structure MCal (P : Program) (w : World) (K : PySem.W.Frag) (mg : Str → Option Value) (base : Heap) (CX : CXT) (k : Nat) (C : Addr) (m : Str) (ps : List Str) (sp : Sp) : Prop where
  ex : ∃ (f : Addr) (fd : FuncData), Meth K C m f ∧ Binds K fd ps [] ∧ FnOk P w K mg base CX k f fd ps sp
theorem MCal.mono {P : Program} {w : World} {K : PySem.W.Frag} {mg : Str → Option Value} {base : Heap} {CX : CXT} {j k : Nat} {C : Addr} {m : Str} {ps : List Str} {sp : Sp} (M : MCal P w K mg base CX j C m ps sp) (h : j ≤ k) : MCal P w K mg base CX k C m ps sp := by
  obtain ⟨f, fd, hm, hb, F⟩ := M.ex
  exact ⟨f, fd, hm, hb, F.mono h⟩
section
variable {X : Cx} {CX : CXT} {k : Nat} {C : Addr} {m : Str} {ps : List Str} {sp : Sp} {E : XK} {o e : Expr} {es : List Expr} {ta : TE} {t : TA} {apos pos : Pos}
theorem pe_mc {pl : Sem Bool} (c : Cls X.K C) (M : MCal X.prog X.w X.K X.mg X.base CX k C m ps sp) (hr : Room k X.A) (hx : Passes CX X E) (he : PE X o ta) (ha : PA X (e :: es) t)
    (hst : starEach (e :: es) X.env = (false, eval e X.env) :: starEach es X.env := by rfl) (hpl : (backTo pos (starEach es X.env)).any (·.1) = false := by rfl)
    (ht : eval (.Call (.Attribute o m apos) (e :: es) [] pos) X.env = (do
      let ov ← eval o X.env
      standAt apos.atName
      let (f, first) ← holding [ov] (getMethod ov m pl)
      callWith pos f first (backTo pos (starEach (e :: es) X.env)) (backToKw pos (keywordEach [] X.env))) := by rfl) :
    PE X (.Call (.Attribute o m apos) (e :: es) [] pos) (tMeth C m sp [] E ta t) := by
  obtain ⟨f, fd, hm, hb, F⟩ := M.ex
  exact pe_meth he c hm F hr hb .nil hx ha hst hpl ht
end
def tThawS (H₀ : Hp) (t : TS) : TS := fun D σ H => t { D with nx := fun σ' H' => ∃ d ob kvs, H' d = some (.frz ob (.dK kvs)) ∧ (∀ o u, H₀ d ≠ some (.frz o u)) ∧ D.nx σ' (upd H' d (.dK kvs)) } σ H
end L2

namespace L2
open PySem PySem.Spec PyProof.Rows
section
variable {X : Cx} {e : Expr} {nm m : Str} {p apos cpos pos : Pos} {ty ta : TE} {aF : Addr} {f : Str → Option Addr}
/-- NAME.get(text) of a dict of the module -/
def tKGet (f : Str → Option Addr) (ty : TE) : TE := fun σ H Q => ty σ H fun y H2 => ∃ x, y = .str x ∧ Q (((f x).map V.ref).getD .non) H2
theorem pe_kget (D : KDict X.w X.K aF f) (hg : Gl X nm) (hm : X.mg nm = some (.ref aF)) (he : PE X e ty) (M : M1 X (.Name nm p) "get" apos e cpos) (hd : (nm == ("__debug__" : Str)) = false := by decide) : PE X (.Call (.Attribute (.Name nm p) "get" apos) [e] [] cpos) (tKGet f ty) := by
  intro pins s σ H Q I h
  refine wpAny_Call_method M.base M.few M.line PySem.F.plainAttrs_dict PySem.F.slot_dict_get PySem.F.type_dict_get (ld_glob I hg hm ?_ hd)
  obtain ⟨es, n, hl, hk, hf⟩ := D.ex
  have hm' := PySem.W.mapOf_K (prog := X.prog) (w := X.w) I.kIn hl hk
  refine ⟨hm'.typeIs, fun b q => ?_, ?_⟩
  · cases q
    exact ⟨_, I.kIn _ _ hl, rfl⟩
  rw [M.trees]
  refine Calls.callWith_builtin rfl (Calls.evalArgs_plain (Calls.spliced_cons (thn (he pins s σ H _ I h) fun iv s2 ⟨y, H2, I2, ry, x, ex, q2⟩ => Calls.spliced_nil ?_)))
  subst ex
  obtain ⟨t, rfl⟩ := (show ∃ t, iv = Value.str x t from ry)
  refine kd_get1 D I2 fun s3 I3 => ⟨_, H2, I3, ?_, q2⟩
  cases f x with
  | none => exact rfl
  | some a => exact rfl
/-- o.m() of an instance of one of some classes -/
def tMethD (m : Str) (Cs : List (Addr × Sp)) (E : XK) (ta : TE) : TE := fun σ H Q => ta σ H fun x H1 => ∃ C sp a dx fs, (C, sp) ∈ Cs ∧ x = .ref a ∧ H1 a = some (.ins C dx fs) ∧ fs.lookup m = none ∧ sp [x] H1 Q E
theorem pe_mcD {CX : CXT} {k : Nat} {E : XK} {o : Expr} {Cs : List (Addr × Sp)} {pl : Sem Bool} (hC : ∀ c ∈ Cs, Cls X.K c.1 ∧ MCal X.prog X.w X.K X.mg X.base CX k c.1 m ["self"] c.2) (hr : Room k X.A) (hx : Passes CX X E) (he : PE X o ta)
    (ht : eval (.Call (.Attribute o m apos) [] [] pos) X.env = (do
      let ov ← eval o X.env
      standAt apos.atName
      let (f, first) ← holding [ov] (getMethod ov m pl)
      callWith pos f first (backTo pos (starEach [] X.env)) (backToKw pos (keywordEach [] X.env))) := by rfl) :
    PE X (.Call (.Attribute o m apos) [] [] pos) (tMethD m Cs E ta) := by
  intro pins s σ H Q I h
  refine PySem.W.methodCall_KW (pl := pl) (thn (he pins s σ H _ I h) fun u s1 ⟨x, H1, I1, rx, C, sp, a, dx, fs, hm, ex, ea, l, q⟩ => ?_) ht
  subst ex
  obtain rfl : u = Value.ref a := rx
  obtain ⟨c, M⟩ := hC _ hm
  obtain ⟨f, fd, hm', b, F⟩ := M
  refine getmeth_ok I1 ea c hm' l ?_
  exact PySem.W.callWith_K0 (first := [.ref a]) I1.kIn hm'.kp (run_fn (us := [.ref a]) (vs := [.ref a]) (dvs := []) F hr b .nil hx I1 (.cons rfl .nil) q)
end
/-- what an instance's class must have for isinstance -/
structure InsK (K : PySem.W.Frag) (C : Addr) : Prop where
  cl : Cls K C
  ha : PySem.W.findIn K (.ref C) "__class__" = some (some (.builtin "object.__class__"))
  hn : PySem.W.specialIn K (.builtin "object.__class__") "__get__" = some (some (.builtin "getset_descriptor.__get__"))
  htk : PySem.W.takesIn K (.builtin "object.__class__") = some true
  hm : PySem.W.mroIn K C (.type "object") = some true
theorem call_isiI {X : Cx} : CallR X (.builtin "isinstance") (fun xs H Q => ∃ a C dx fs c b, xs = [.ref a, .ref c] ∧ H a = some (.ins C dx fs) ∧ InsK X.K C ∧ PySem.W.kitOne X.K (.ref C) (.ref c) = some b ∧ Q (.bl b) H) := by
  intro pins s σ H xs us Q I r h
  obtain ⟨a, C, dx, fs, c, b, rfl, hH, ik, hk, q⟩ := h
  obtain ⟨u, w', rfl, rx, ry⟩ := vals2 r
  cases ry
  exact isinst_ok I rx (.ins hH ik.cl ik.ha ik.hn ik.htk ik.hm) hk fun tk => ⟨.bl b, H, I.tok _, rfl, q⟩
end L2

namespace PySem.SeqAt
open PySem MeetsSeq
end PySem.SeqAt
namespace HT
open PySem PySem.Spec PyProof.Rows
section
variable {prog : Program} {w : World} {A : Around} {E : Value → Shared → Prop} {s : Shared}
theorem getItem_tuple_whole {t sl : Addr} {items : Array Value} {vl vu : Value} {lo hi : Option Int} {Q : Value → Shared → Prop} (ht : IsTup s.heap t items) (hs : s.heap.IsSliceOf sl vl vu .none) (pl : IsPart vl lo) (pu : IsPart vu hi)
    (hw : sIx items.size 0 lo = 0 ∧ sIx items.size items.size hi = items.size) (h : Q (.ref t) s) : wpAny (model prog w) A (getItem (.ref t) (.ref sl)) Q E s := by
  obtain ⟨os, hos, hcs, hds⟩ := id hs
  have hTs : s.TypeIs (.ref sl) "slice" := ⟨os, hos, hcs⟩
  unfold getItem
  try with_reducible refine wpAny_holding ?_
  first | refine wpAny_bind (wpAny_pure ?_) | skip
  refine wpAny_bind (wpAny_sequenceKey ht.typeIs (by decide) ?_)
  refine wpAny_bind (wpAny_callSpecial?_slot (name := Str.ofString "__getitem__") ht.typeIs PyProof.Rows.slot_tuple_getitem
    (wpAny_call_entry PyProof.Rows.slot_tuple_getitem ht.typeIs entry_tuple_getitem ?_ (args_tuple_getitem _ _)))
  show wpAny _ _ (Builtin.Tuple.tupleItemsOf (.ref t) >>= _) _ _ s
  refine wpAny_bind (tupleItemsOf_ ht ?_)
  refine wpAny_bind (wpAny_typeOf hTs ?_)
  rw [if_pos (by decide)]
  refine wpAny_bind (sliceApplied_gen hs pl pu ?_)
  rw [hw.1, hw.2]
  have hyes : (((0 : Nat) : Int) == 0 && (1 : Int) == 1 && (items.size - 0) == items.size) = true := by simp
  show wpAny _ _ (if (((0 : Nat) : Int) == 0 && (1 : Int) == 1 && (items.size - 0) == items.size) = true then _ else _) _ _ s
  rw [if_pos hyes]
  refine wpAny_bind (m := Builtin.Tuple.tupleIsExact (.ref t)) ?_
  unfold Builtin.Tuple.tupleIsExact
  refine wpAny_bind (wpAny_typeOf ht.typeIs (wpAny_pure ?_))
  rw [if_pos (by decide)]
  exact wpAny_bind (wpAny_rule (wpAny_pure ⟨_, rfl, wpAny_pure h⟩))
end
end HT
namespace L2
open PySem PySem.Spec PyProof.Rows
/-- xs.index(y, i) -/
def rIndexF : V → List V → Hp → VK → Prop := fun x vs H Q => ∃ l xs y, ∃ i j : Nat, ∃ z, x = .ref l ∧ vs = [y, .int (i : Int)] ∧ H l = some (.lst xs) ∧ flatV y = true ∧ xs.all flatV = true ∧ i ≤ j ∧ xs[j]? = some z ∧ eqV z y = true ∧
  (∀ m z, i ≤ m → m < j → xs[m]? = some z → eqV z y = false) ∧ Q (.int (j : Int)) H
section
variable {X : Cx}
/-- t[lo:hi] whatever it is: what comes lies there, all else has stayed -/
def rSlTA (K : PySem.W.Frag) : V → Option Int → Option Int → Hp → VK → Prop := fun x lo hi H Q => ∃ a xs, x = .ref a ∧ H a = some (.tup xs) ∧ ∀ p H', Same H H' → H' p = some (.tup (cutV xs lo hi)) → Q (.ref p) H'
theorem sl_tupA : SlR X (rSlTA X.K) := by
  intro pins s σ H x v vl vu lo hi sl Q I rx hs pl pu h
  obtain ⟨a, xs, rfl, hx, q⟩ := h
  by_cases hw : HT.sIx xs.length 0 lo = 0 ∧ HT.sIx xs.length xs.length hi = xs.length
  · cases rx
    obtain ⟨its, r, ht, hz⟩ := I.tuple (SqT.of hx)
    have hlen : its.toArray.size = xs.length := by rw [List.size_toArray]; exact r.length.symm
    refine ⟨"tuple", _, PyProof.Rows.slot_tuple_getitem.lookup, ht.typeIs, ?_⟩
    refine HT.getItem_tuple_whole ht hs pl pu (by rw [hlen]; exact hw) ⟨.ref a, H, I, rfl, q a H (Same.refl _) ?_⟩
    unfold cutV
    rw [hw.1, hw.2, List.drop_zero, Nat.sub_zero, List.take_length]
    exact hx
  · exact sl_tup pins s σ H _ v vl vu lo hi sl Q I rx hs pl pu ⟨a, xs, rfl, SqT.of hx, hw, fun p hp => q p _ (Same.upd hp) upd_same⟩
end
end L2

namespace K36
open PySem PySem.Spec PyProof.Rows L2 GM TM
/-- is_whole_number -/
inductive WhV (K : PySem.W.Frag) (H : Hp) : V → Bool → Prop where
  | int {n} : WhV K H (.int n) true
  | bl {b} : WhV K H (.bl b) false
  | oth {v} : Isi K H v "int" false → WhV K H v false
def spWh (K : PySem.W.Frag) : Sp := fun vs H Q _ => ∃ v β, vs = [v] ∧ WhV K H v β ∧ Q (.bl β) H
/-- is_amount -/
inductive AmV (K : PySem.W.Frag) (H : Hp) : V → Bool → Prop where
  | two {a t b} : SqT K H a [.int t, .int b] → AmV K H (.ref a) (decide (0 ≤ t) && (decide (1 ≤ b) && decide (G t b = 1)))
  | tru {a k b} : SqT K H a [.bl k, .int b] → AmV K H (.ref a) false
  | len {a xs} : SqT K H a xs → xs.length ≠ 2 → AmV K H (.ref a) false
  | oth {v} : Isi K H v "tuple" false → AmV K H v false
def spIsAm (K : PySem.W.Frag) : Sp := fun vs H Q _ => ∃ v β, vs = [v] ∧ AmV K H v β ∧ Q (.bl β) H
/-- ONE less than an amount -/
def spLess1 (K : PySem.W.Frag) (aO : Addr) : Sp := fun vs H Q _ => ∃ q t b, vs = [.ref aO, .ref q] ∧ SqT K H q [.int t, .int b] ∧ Q (.bl (decide (b < t))) H
structure AmG (K : PySem.W.Frag) (H : Hp) (a : Addr) (t b : Int) : Prop where
  sq : SqT K H a [.int t, .int b]
  t0 : 0 ≤ t
  b1 : 1 ≤ b
  g1 : G t b = 1
/-- is_of_kind, with so many phials -/
inductive KindV (K : PySem.W.Frag) (H : Hp) (nb : Nat) : Str → V → Bool → Prop where
  | ph {n : Int} : KindV K H nb "phial" (.int n) (decide (0 ≤ n) && decide (n < (nb : Nat)))
  | phb {v} : WhV K H v false → KindV K H nb "phial" v false
  | wa {x : Str} : x.length ≤ 1000 → KindV K H nb "ware" (.str x) (decide (Wr x))
  | wo {v} : Isi K H v "str" false → KindV K H nb "ware" v false
  | am {k v} : k = "amount" ∨ k = "level" ∨ k = "part" → AmV K H v false → KindV K H nb k v false
  | lv {a t b} : AmG K H a t b → KindV K H nb "level" (.ref a) true
  | mu {a t b} : AmG K H a t b → KindV K H nb "amount" (.ref a) (!decide ([t, b] = [0, 1]))
  | pa {a t b} : AmG K H a t b → KindV K H nb "part" (.ref a) (!decide ([t, b] = [0, 1]) && !decide (b < t))
/-- a bench, as rows see it -/
def BnV (H : Hp) (b : Addr) (nb : Nat) : Prop := ∃ r q rs, H b = some (.tup [.ref r, q]) ∧ H r = some (.tup rs) ∧ rs.length = nb
theorem BnV.keep {H H' : Hp} {b : Addr} {nb : Nat} (s : Same H H') (h : BnV H b nb) : BnV H' b nb := by
  obtain ⟨r, q, rs, h1, h2, h3⟩ := h
  exact ⟨r, q, rs, s _ _ h1, s _ _ h2, h3⟩
def spOfKind (K : PySem.W.Frag) : Sp := fun vs H Q _ => ∃ b nb k v β, vs = [.ref b, .str k, v] ∧ BnV H b nb ∧ KindV K H nb k v β ∧ ∀ H', Same H H' → Q (.bl β) H'
theorem am_good {K : PySem.W.Frag} {H : Hp} {a : Addr} {t b : Int} (h : AmG K H a t b) : AmV K H (.ref a) true := by
  have := AmV.two h.sq
  rw [decide_eq_true h.t0, decide_eq_true h.b1, decide_eq_true h.g1] at this
  exact this
section
variable {P : Program} {w : World} {K : PySem.W.Frag} {mg : Str → Option Value} {base : Heap}
theorem scIsWh : FnScope ["thing"] ["thing"] (defScope sIsWh) := ⟨rfl, rfl, rfl, by decide +kernel, rfl, by decide +kernel, by decide +kernel⟩
theorem ok_iswh {f : Addr} {fd : FuncData} (F : Fun K "is_whole_number" "is_whole_number" sIsWh f fd) (T : Txt mg) : FnOk P w K mg base CX0 1 f fd ["thing"] (spWh K) := by
  refine F.ok scIsWh (fun vs H Q E h => ?_) (fun cdv A outer s H vs Q E hr h => ?_)
  · obtain ⟨_, _, rfl, _⟩ := h
    rfl
  · obtain ⟨v, β, rfl, h, k⟩ := h
    refine ⟨_, pss_one (ps_ret (pe_and (pe_callB call_isi rfl T.isi boot_isinstance (pa_cons (pv 0) (pa_cons (pe_bltn (v := .ty "int") rfl T.int' bt_int rfl) pa_nil)))
      (pe_one (pe_not (pe_callB call_isi rfl T.isi boot_isinstance (pa_cons (pv 0) (pa_cons (pe_bltn (v := .ty "bool") rfl T.bool' bt_bool rfl) pa_nil))))))), ?_⟩
    cases h with
    | int => exact ⟨_, rfl, _, "int", true, rfl, .int_int, _, rfl, iteT ⟨_, rfl, _, "bool", false, rfl, .int_bool, _, rfl, k⟩⟩
    | bl => exact ⟨_, rfl, _, "int", true, rfl, .bl_int, _, rfl, iteT ⟨_, rfl, _, "bool", true, rfl, .bl_bool, _, rfl, k⟩⟩
    | oth h => exact ⟨_, rfl, _, "int", false, rfl, h, _, rfl, iteF k⟩
theorem scIsAm : FnScope ["thing"] ["thing"] (defScope sIsAm) := ⟨rfl, rfl, rfl, by decide +kernel, rfl, by decide +kernel, by decide +kernel⟩
theorem ok_isam {f : Addr} {fd : FuncData} (F : Fun K "is_amount" "is_amount" sIsAm f fd) (T : Txt mg) (cW : Cal P w K mg base CX0 1 "is_whole_number" ["thing"] (spWh K)) (cG : Cal P w K mg base CX0 1 "common_divisor" ["one", "other"] spGcd) : FnOk P w K mg base CX0 2 f fd ["thing"] (spIsAm K) := by
  refine F.ok scIsAm (fun vs H Q E h => ?_) (fun cdv A outer s H vs Q E hr h => ?_)
  · obtain ⟨_, _, rfl, _⟩ := h
    rfl
  · obtain ⟨v, β, rfl, h, k⟩ := h
    refine ⟨_, (pss_cons (ps_if (PW.pt (pw_or (pt_not (pt_val (pe_callB call_isi rfl T.isi boot_isinstance (pa_cons (pv 0) (pa_cons (pe_bltn (v := .ty "tuple") rfl T.tup' bt_tuple rfl) pa_nil))))) (pw_or1 (pt_cmpR op_ne (pe_callB call_len_seq rfl T.len PySem.boot_len (pa_cons (pv 0) pa_nil)) pe_int (nomark _)))))
        (pss_one (ps_ret pe_bl))
        pss_nil)
      (pss_cons (ps_if (PW.pt (pw_or (pt_not (pt_val (pe_cal cW hr rfl pass0 (pa_cons (pit 0 0) pa_nil)))) (pw_or1 (pt_not (pt_val (pe_cal cW hr rfl pass0 (pa_cons (pit 0 1) pa_nil)))))))
        (pss_one (ps_ret pe_bl))
        pss_nil)
      (pss_one (ps_ret (pe_and (pe_cmpR op_ge (pit 0 0) pe_int (nomark _)) (pe_and (pe_cmpR op_ge (pit 0 1) pe_int (nomark _)) (pe_one (pe_cmpR op_eq (pe_cal cG hr rfl pass0 (pa_cons (pit 0 0) (pa_cons (pit 0 1) pa_nil))) pe_int (nomark _))))))))), ?_⟩
    have kk : ∀ b : Bool, b = β → Q (.bl b) H := fun _ e => e ▸ k
    cases h with
    | oth h => exact ⟨_, rfl, _, "tuple", false, rfl, h, _, rfl, iteT k⟩
    | @len a xs h n =>
      refine ⟨_, rfl, _, "tuple", true, rfl, .tup_tuple h, _, rfl, iteF ⟨_, rfl, a, _, rfl, .inr h, rfl, _, rfl, ite2 (fun _ => k) (fun hc => ?_)⟩⟩
      exfalso
      refine hc ?_
      have e : decide (V.int (xs.length : Int) = V.int 2) = false := decide_eq_false fun z => n (by have := V.int.inj z; omega)
      show (!decide (V.int (xs.length : Int) = V.int 2)) = true
      rw [e]
      rfl
    | @tru a kb b h =>
      refine ⟨_, rfl, _, "tuple", true, rfl, .tup_tuple h, _, rfl, iteF ⟨_, rfl, a, _, rfl, .inr h, rfl, _, rfl, iteF ?_⟩⟩
      exact ⟨a, _, _, rfl, h, rfl, .bl kb, false, rfl, .bl, _, rfl, iteT k⟩
    | @two a t b h =>
      refine ⟨_, rfl, _, "tuple", true, rfl, .tup_tuple h, _, rfl, iteF ⟨_, rfl, a, _, rfl, .inr h, rfl, _, rfl, iteF ?_⟩⟩
      refine ⟨a, _, _, rfl, h, rfl, .int t, true, rfl, .int, _, rfl, iteF ⟨a, _, _, rfl, h, rfl, .int b, true, rfl, .int, _, rfl, iteF ?_⟩⟩
      refine ⟨a, _, _, rfl, h, rfl, _, _, rfl, rfl, _, rfl, ite2 (fun h0 => ?_) (fun h0 => ?_)⟩
      · have t0 : 0 ≤ t := of_decide_eq_true h0
        refine ⟨a, _, _, rfl, h, rfl, _, _, rfl, rfl, _, rfl, ite2 (fun h1 => ?_) (fun h1 => ?_)⟩
        · have b1 : 1 ≤ b := of_decide_eq_true h1
          refine ⟨a, _, _, rfl, h, rfl, a, _, _, rfl, h, rfl, t, b, rfl, t0, by omega, rfl, kk _ ?_⟩
          rw [decide_eq_true t0, decide_eq_true b1]
          simp
        · refine kk _ ?_
          have nb : ¬ 1 ≤ b := fun z => h1 (decide_eq_true z)
          rw [decide_eq_true t0, decide_eq_false nb]
          rfl
      · refine kk _ ?_
        have nt : ¬ 0 ≤ t := fun z => h0 (decide_eq_true z)
        rw [decide_eq_false nt]
        rfl
theorem scLess : FnScope ["one", "other"] ["one", "other"] (defScope sLess) := ⟨rfl, rfl, rfl, by decide +kernel, rfl, by decide +kernel, by decide +kernel⟩
theorem ok_less1 {f aO : Addr} {fd : FuncData} (F : Fun K "less" "less" sLess f fd) (sO : ∀ H : Hp, SqT K H aO [.int 1, .int 1]) : FnOk P w K mg base CX0 1 f fd ["one", "other"] (spLess1 K aO) := by
  refine F.ok scLess (fun vs H Q E h => ?_) (fun cdv A outer s H vs Q E hr h => ?_)
  · obtain ⟨_, _, _, rfl, _⟩ := h
    rfl
  · obtain ⟨q, t, b, rfl, h, k⟩ := h
    refine ⟨_, pss_one (ps_ret (pe_cmpR op_lt (pe_op op_mul (pit 0 0) (pit 1 1)) (pe_op op_mul (pit 1 0) (pit 0 1)) (nomark _))), ?_⟩
    refine ⟨aO, _, _, rfl, sO H, rfl, q, _, _, rfl, h, rfl, _, _, rfl, rfl, .inl ⟨by decide, by decide⟩, q, _, _, rfl, h, rfl, aO, _, _, rfl, sO H, rfl, _, _, rfl, rfl, .inr ⟨by decide, by decide⟩, _, _, rfl, rfl, ?_⟩
    have e : decide ((1 : Int) * b < t * 1) = decide (b < t) := by rw [Int.one_mul, Int.mul_one]
    show Q (.bl (decide ((1 : Int) * b < t * 1))) H
    rw [e]
    exact k
theorem scOfKind : FnScope ["bench", "kind", "thing"] ["bench", "kind", "thing"] (defScope sOfKind) := ⟨rfl, rfl, rfl, by decide +kernel, rfl, by decide +kernel, by decide +kernel⟩
theorem ok_ofkind {f aN aO : Addr} {fd : FuncData} (F : Fun K "is_of_kind" "is_of_kind" sOfKind f fd) (T : Txt mg) (mN : mg "NOUGHT" = some (.ref aN)) (sN : ∀ H : Hp, SqT K H aN [.int 0, .int 1]) (mO : mg "ONE" = some (.ref aO)) (cW : Cal P w K mg base CX0 2 "is_whole_number" ["thing"] (spWh K)) (cI : Cal P w K mg base CX0 2 "is_ware" ["thing"] (spIsWare K)) (cA : Cal P w K mg base CX0 2 "is_amount" ["thing"] (spIsAm K)) (cL : Cal P w K mg base CX0 2 "less" ["one", "other"] (spLess1 K aO)) : FnOk P w K mg base CX0 3 f fd ["bench", "kind", "thing"] (spOfKind K) := by
  refine F.ok scOfKind (fun vs H Q E h => ?_) (fun cdv A outer s H vs Q E hr h => ?_)
  · obtain ⟨_, _, _, _, _, rfl, _⟩ := h
    rfl
  · obtain ⟨b, nb, kd, v, β, rfl, ⟨r, q0, rs, hb, hr', rl⟩, h, k⟩ := h
    refine ⟨_, (pss_cons (ps_if (pt_cmpR op_eq (pv 1) pe_str (nomark _))
        (pss_one (ps_ret (pe_and (pe_cal cW hr rfl pass0 (pa_cons (pv 2) pa_nil)) (pe_one (pe_chain op_le op_lt pe_int (pv 2) (pe_callB call_len_seq rfl T.len PySem.boot_len (pa_cons (pit 0 0) pa_nil)))))))
        pss_nil)
      (pss_cons (ps_if (pt_cmpR op_eq (pv 1) pe_str (nomark _))
        (pss_one (ps_ret (pe_cal cI hr rfl pass0 (pa_cons (pv 2) pa_nil))))
        pss_nil)
      (pss_cons (ps_if (pt_not (pt_val (pe_cal cA hr rfl pass0 (pa_cons (pv 2) pa_nil))))
        (pss_one (ps_ret pe_bl))
        pss_nil)
      (pss_cons (ps_if (pt_cmpR op_eq (pv 1) pe_str (nomark _))
        (pss_one (ps_ret pe_bl))
        pss_nil)
      (pss_one (ps_ret (pe_and (pe_cmpR (op_neI hr.units) (pv 2) (pe_glob (v := .ref aN) rfl mN rfl) (nomark _)) (pe_one (pe_or (pe_cmpR op_eq (pv 1) pe_str (nomark _)) (pe_one (pe_not (pe_cal cL hr rfl pass0 (pa_cons (pe_glob (v := .ref aO) rfl mO rfl) (pa_cons (pv 2) pa_nil)))))))))))))), ?_⟩
    have k0 := k H (Same.refl _)
    have eqS : ∀ {x y : Str} {B : Prop}, x ≠ y → decide (V.str x = V.str y) = false := fun {x y B} n => decide_eq_false fun z => n (V.str.inj z)
    cases h with
    | @ph n =>
      refine ⟨_, rfl, rfl, _, rfl, iteT ⟨_, rfl, _, true, rfl, .int, _, rfl, iteT ⟨_, rfl, _, _, rfl, rfl, _, rfl, ite2 (fun h0 => ?_) (fun h0 => ?_)⟩⟩⟩
      · have n0 : 0 ≤ n := of_decide_eq_true h0
        refine ⟨b, _, _, rfl, SqT.of hb, rfl, r, _, rfl, .inr (SqT.of hr'), _, _, rfl, rfl, ?_⟩
        rw [rl]
        rw [decide_eq_true n0] at k0
        exact k0
      · have n0 : ¬ 0 ≤ n := fun z => h0 (decide_eq_true z)
        rw [decide_eq_false n0] at k0
        exact k0
    | phb h => exact ⟨_, rfl, rfl, _, rfl, iteT ⟨_, rfl, _, false, rfl, h, _, rfl, iteF k0⟩⟩
    | @wa x xl =>
      refine ⟨_, rfl, rfl, _, rfl, iteF ⟨_, rfl, rfl, _, rfl, iteT ⟨_, rfl, _, rfl, .inr ⟨x, rfl, xl, fun w1 H' s' => ?_, fun w1 H' s' => ?_⟩⟩⟩⟩
      · have := k H' s'
        rw [decide_eq_true w1] at this
        exact this
      · have := k H' s'
        rw [decide_eq_false w1] at this
        exact this
    | wo h => exact ⟨_, rfl, rfl, _, rfl, iteF ⟨_, rfl, rfl, _, rfl, iteT ⟨_, rfl, _, rfl, .inl ⟨.inl h, k0⟩⟩⟩⟩
    | am hk h =>
      rcases hk with rfl | rfl | rfl <;> exact ⟨_, rfl, rfl, _, rfl, iteF ⟨_, rfl, rfl, _, rfl, iteF ⟨_, rfl, _, false, rfl, h, _, rfl, iteT k0⟩⟩⟩
    | lv h => exact ⟨_, rfl, rfl, _, rfl, iteF ⟨_, rfl, rfl, _, rfl, iteF ⟨_, rfl, _, true, rfl, am_good h, _, rfl, iteF ⟨_, rfl, rfl, _, rfl, iteT k0⟩⟩⟩⟩
    | @mu a t b h =>
      refine ⟨_, rfl, rfl, _, rfl, iteF ⟨_, rfl, rfl, _, rfl, iteF ⟨_, rfl, _, true, rfl, am_good h, _, rfl, iteF ⟨_, rfl, rfl, _, rfl, iteF ⟨_, rfl, a, aN, [t, b], [0, 1], rfl, rfl, h.sq, sN H, _, rfl, ite2 (fun hc => ?_) (fun hc => ?_)⟩⟩⟩⟩⟩
      · rw [hc] at k0
        exact ⟨_, rfl, rfl, _, rfl, iteT k0⟩
      · rw [show (!decide ([t, b] = [0, 1])) = false by simpa using hc] at k0
        exact k0
    | @pa a t b h =>
      refine ⟨_, rfl, rfl, _, rfl, iteF ⟨_, rfl, rfl, _, rfl, iteF ⟨_, rfl, _, true, rfl, am_good h, _, rfl, iteF ⟨_, rfl, rfl, _, rfl, iteF ⟨_, rfl, a, aN, [t, b], [0, 1], rfl, rfl, h.sq, sN H, _, rfl, ite2 (fun hc => ?_) (fun hc => ?_)⟩⟩⟩⟩⟩
      · rw [hc, Bool.true_and] at k0
        exact ⟨_, rfl, rfl, _, rfl, iteF ⟨_, rfl, a, t, b, rfl, h.sq, _, rfl, k0⟩⟩
      · rw [show (!decide ([t, b] = [0, 1])) = false by simpa using hc, Bool.false_and] at k0
        exact k0
end
end K36

namespace K36
open PySem PySem.Spec PyProof.Rows L2 GM TM
/-- what stands behind a row's word -/
def frm (x : Str) : Option (List Str) := if x = "draw" then some ["phial", "ware", "amount"] else if x = "fill" then some ["phial", "ware", "level"] else if x = "pour" then some ["phial", "phial", "part"] else if x = "empty" then some ["phial"] else if x = "rinse" then some ["phial"] else none
theorem frm_len {x : Str} {ks : List Str} (h : frm x = some ks) : ks.length ≤ 3 := by
  unfold frm at h
  repeat' split at h
  all_goals first | (cases h; decide) | cases h
structure FormsK (w : World) (K : PySem.W.Frag) (mg : Str → Option Value) (aF : Addr) (f : Str → Option Addr) : Prop where
  d : KDict w K aF f
  m : mg "FORMS" = some (.ref aF)
  y : ∀ x ks, frm x = some ks → ∃ a, f x = some a ∧ ∀ H : Hp, SqT K H a (ks.map V.str)
  n : ∀ x, frm x = none → f x = none
def EachK (K : PySem.W.Frag) (H : Hp) (nb : Nat) (ks : List Str) (us : List V) (βs : List Bool) : Prop := us.length = ks.length ∧ βs.length = ks.length ∧ ∀ (i : Nat) k u β, ks[i]? = some k → us[i]? = some u → βs[i]? = some β → KindV K H nb k u β
/-- what is no row at the first look -/
inductive RowE (K : PySem.W.Frag) (H : Hp) : V → Prop where
  | notT {v} : Isi K H v "tuple" false → RowE K H v
  | nil {a} : H a = some (.tup []) → RowE K H (.ref a)
  | head {a u us} : H a = some (.tup (u :: us)) → Isi K H u "str" false → RowE K H (.ref a)
  | word {a x us} : H a = some (.tup (.str x :: us)) → frm x = none → RowE K H (.ref a)
  | len {a x us ks} : H a = some (.tup (.str x :: us)) → frm x = some ks → us.length ≠ ks.length → RowE K H (.ref a)
/-- is_row -/
inductive RowV (K : PySem.W.Frag) (H : Hp) (nb : Nat) : V → Bool → Prop where
  | early {v} : RowE K H v → RowV K H nb v false
  | big {a x us ks βs β} : H a = some (.tup (.str x :: us)) → frm x = some ks → EachK K H nb ks us βs → (βs.all id = false → β = false) → (βs.all id = true → (x ≠ "pour" ∧ β = true) ∨ (x = "pour" ∧ ∃ p o w', us = [.int p, .int o, w'] ∧ β = !decide (V.int p = V.int o))) → RowV K H nb (.ref a) β
def spIsRow (K : PySem.W.Frag) : Sp := fun vs H Q _ => ∃ b nb v β, vs = [.ref b, v] ∧ BnV H b nb ∧ RowV K H nb v β ∧ ∀ H', Same H H' → Q (.bl β) H'
theorem KindV.keep {K : PySem.W.Frag} {H H' : Hp} {nb : Nat} {k : Str} {v : V} {β : Bool} (s : Same H H') (h : KindV K H nb k v β) : KindV K H' nb k v β := by
  have ki : ∀ {v T b}, Isi K H v T b → Isi K H' v T b := fun {v T b} h => by
    cases h
    case tup_tuple h => exact .tup_tuple (s.tup h)
    case tup_int h => exact .tup_int (s.tup h)
    case tup_str h => exact .tup_str (s.tup h)
    case tup_list h => exact .tup_list (s.tup h)
    case lst_tuple h => exact .lst_tuple (s.seq h)
    case lst_int h => exact .lst_int (s.seq h)
    case lst_str h => exact .lst_str (s.seq h)
    case lst_list h => exact .lst_list (s.seq h)
    all_goals constructor
  have ka : ∀ {v β}, AmV K H v β → AmV K H' v β := fun {v β} h => by
    cases h with
    | two h => exact .two (s.tup h)
    | tru h => exact .tru (s.tup h)
    | len h n => exact .len (s.tup h) n
    | oth h => exact .oth (ki h)
  have kg : ∀ {a t b}, AmG K H a t b → AmG K H' a t b := fun h => ⟨s.tup h.sq, h.t0, h.b1, h.g1⟩
  cases h with
  | ph => exact .ph
  | phb h =>
    cases h with
    | bl => exact .phb .bl
    | oth h => exact .phb (.oth (ki h))
  | wa h => exact .wa h
  | wo h => exact .wo (ki h)
  | am a h => exact .am a (ka h)
  | lv h => exact .lv (kg h)
  | mu h => exact .mu (kg h)
  | pa h => exact .pa (kg h)
theorem cut_from {xs : List V} {j : Nat} (h : j ≤ xs.length) : cutV xs (some (j : Int)) none = xs.drop j := by
  unfold cutV
  rw [HT.sIx_nat, HT.sIx_none, Nat.min_eq_left h]
  exact List.take_of_length_le (by rw [List.length_drop]; omega)
theorem cut_from1 (x : Str) (us : List V) : cutV (V.str x :: us) (some 1) none = us := by
  have := cut_from (xs := V.str x :: us) (j := 1) (by simp)
  simpa using this
section
variable {P : Program} {w : World} {K : PySem.W.Frag} {mg : Str → Option Value} {base : Heap}
theorem ndKTB : (["kind", "thing", "bench"] : List Str).Nodup := by decide +kernel
abbrev Nrow : List Str := ["bench", "row", "form"]
theorem scIsRow : FnScope Nrow ["bench", "row"] (defScope sIsRow) := ⟨rfl, rfl, rfl, by decide +kernel, rfl, by decide +kernel, by decide +kernel⟩
theorem ok_isrow {f aF : Addr} {fF : Str → Option Addr} {fd : FuncData} (F : Fun K "is_row" "is_row" sIsRow f fd) (T : Txt mg) (FK : FormsK w K mg aF fF) (cK : Cal P w K mg base CX0 3 "is_of_kind" ["bench", "kind", "thing"] (spOfKind K)) : FnOk P w K mg base CX0 4 f fd ["bench", "row"] (spIsRow K) := by
  refine F.ok scIsRow (fun vs H Q E h => ?_) (fun cdv A outer s H vs Q E hr h => ?_)
  · obtain ⟨_, _, _, _, rfl, _⟩ := h
    rfl
  · obtain ⟨b, nb, v, β, rfl, bn, h, k⟩ := h
    refine ⟨_, (pss_cons (ps_if (PW.pt (pw_or (pt_not (pt_val (pe_callB call_isi rfl T.isi boot_isinstance (pa_cons (pv 1) (pa_cons (pe_bltn (v := .ty "tuple") rfl T.tup' bt_tuple rfl) pa_nil))))) (pw_or (pt_cmpR op_eq (pe_callB call_len_seq rfl T.len PySem.boot_len (pa_cons (pv 1) pa_nil)) pe_int (nomark _)) (pw_or1 (pt_not (pt_val (pe_callB call_isi rfl T.isi boot_isinstance (pa_cons (pit 1 0) (pa_cons (pe_bltn (v := .ty "str") rfl T.str' bt_str rfl) pa_nil)))))))))
        (pss_one (ps_ret pe_bl))
        pss_nil)
      (pss_cons (ps_set (i := 2) scIsRow.nd rfl (Or.inl rfl) (pe_kget FK.d rfl FK.m (pit 1 0) ⟨rfl, rfl, rfl, rfl⟩))
      (pss_cons (ps_if (PW.pt (pw_or (pt_cmpR op_isN (pv 2) pe_non (nomark _)) (pw_or1 (pt_cmpR op_ne (pe_callB call_len_seq rfl T.len PySem.boot_len (pa_cons (pv 1) pa_nil)) (pe_op op_add (pe_callB call_len_seq rfl T.len PySem.boot_len (pa_cons (pv 2) pa_nil)) pe_int) (nomark _)))))
        (pss_one (ps_ret pe_bl))
        pss_nil)
      (pss_cons (ps_if (pt_not (pt_val (pe_callB (call_allB rfl) rfl T.all' boot_all (pa_cons (pe_compC (N' := ["kind", "thing", "bench"]) (g := gTup K 2 (gCons (L2.gName 0) (gCons (L2.gName 1) gNil))) (fun σ => [none, none, some 0].map fun t => t.bind fun j => (σ[j]?).join) rfl rfl (by decide +kernel) (by decide +kernel)
            (hk_of (sc := defScope sIsRow) rfl (by decide +kernel)) (fun _ _ _ => blkN_by (sc := defScope sIsRow) (N := Nrow) [none, none, some 0] rfl rfl rfl rfl (by decide +kernel))
            (pi_zip2 rfl T.zip' (pa_cons (pv 2) (pa_cons (pe_slice sl_tupA (pv 1) (po_some pe_int) po_none) pa_nil))) (fun _ _ _ _ _ _ => pg_tup rfl (pgs_cons (pg_name (i := 0) ndKTB rfl (Or.inl rfl)) (pgs_cons (pg_name (i := 1) ndKTB rfl (Or.inl rfl)) pgs_nil)))
            (fun _ _ _ _ _ _ => pifs_nil)
            (fun _ _ _ _ _ _ => pe_cal cK hr rfl pass0 (pa_cons (pv 2) (pa_cons (pv 0) (pa_cons (pv 1) pa_nil))))) pa_nil))))
        (pss_one (ps_ret pe_bl))
        pss_nil)
      (pss_one (ps_ret (pe_or (pe_cmpR op_ne (pit 1 0) pe_str (nomark _)) (pe_one (pe_cmpR op_ne (pit 1 1) (pit 1 2) (nomark _)))))))))), ?_⟩
    have k0 := k H (Same.refl _)
    cases h with
    | early h =>
      cases h with
      | notT h => exact ⟨_, rfl, _, "tuple", false, rfl, h, _, rfl, iteT k0⟩
      | @nil a ha => exact ⟨_, rfl, _, "tuple", true, rfl, .tup_tuple (SqT.of ha), _, rfl, iteF ⟨_, rfl, a, _, rfl, .inr (SqT.of ha), rfl, _, rfl, iteT k0⟩⟩
      | @head a u us ha hu =>
        refine ⟨_, rfl, _, "tuple", true, rfl, .tup_tuple (SqT.of ha), _, rfl, iteF ⟨_, rfl, a, _, rfl, .inr (SqT.of ha), rfl, _, rfl, ite2 (fun hc => ?_) (fun _ => ⟨a, _, _, rfl, SqT.of ha, rfl, _, "str", false, rfl, hu, _, rfl, iteT k0⟩)⟩⟩
        have := V.int.inj (of_decide_eq_true hc)
        rw [List.length_cons] at this
        omega
      | @word a x us ha hf =>
        refine ⟨_, rfl, _, "tuple", true, rfl, .tup_tuple (SqT.of ha), _, rfl, iteF ⟨_, rfl, a, _, rfl, .inr (SqT.of ha), rfl, _, rfl, ite2 (fun hc => ?_) (fun _ => ⟨a, _, _, rfl, SqT.of ha, rfl, _, "str", true, rfl, .str_str, _, rfl, iteF ?_⟩)⟩⟩
        · have := V.int.inj (of_decide_eq_true hc)
          rw [List.length_cons] at this
          omega
        · refine ⟨a, _, _, rfl, SqT.of ha, rfl, x, rfl, ?_⟩
          rw [FK.n x hf]
          exact ⟨_, rfl, rfl, _, rfl, iteT k0⟩
      | @len a x us ks ha hf ne =>
        refine ⟨_, rfl, _, "tuple", true, rfl, .tup_tuple (SqT.of ha), _, rfl, iteF ⟨_, rfl, a, _, rfl, .inr (SqT.of ha), rfl, _, rfl, ite2 (fun hc => ?_) (fun _ => ⟨a, _, _, rfl, SqT.of ha, rfl, _, "str", true, rfl, .str_str, _, rfl, iteF ?_⟩)⟩⟩
        · have := V.int.inj (of_decide_eq_true hc)
          rw [List.length_cons] at this
          omega
        · obtain ⟨g, eg, hg⟩ := FK.y x ks hf
          refine ⟨a, _, _, rfl, SqT.of ha, rfl, x, rfl, ?_⟩
          rw [eg]
          refine ⟨_, rfl, rfl, _, rfl, iteF ⟨_, rfl, a, _, rfl, .inr (SqT.of ha), _, rfl, g, _, rfl, .inr (hg H), _, _, rfl, rfl, rfl, _, rfl, ite2 (fun _ => k0) (fun hc => ?_)⟩⟩
          exfalso
          refine hc ?_
          have e : decide (V.int (((V.str x :: us).length : Nat) : Int) = V.int (((ks.map V.str).length : Nat) + 1)) = false := decide_eq_false fun z => ne (by have := V.int.inj z; rw [List.length_cons, List.length_map] at this; omega)
          show (!decide (V.int (((V.str x :: us).length : Nat) : Int) = V.int (((ks.map V.str).length : Nat) + 1))) = true
          rw [e]
          rfl
    | @big a x us ks βs β ha hf ek n1 n2 =>
      obtain ⟨ul, bl', eq⟩ := ek
      obtain ⟨g, eg, hg⟩ := FK.y x ks hf
      have k3 := frm_len hf
      refine ⟨_, rfl, _, "tuple", true, rfl, .tup_tuple (SqT.of ha), _, rfl, iteF ⟨_, rfl, a, _, rfl, .inr (SqT.of ha), rfl, _, rfl, ite2 (fun hc => ?_) (fun _ => ⟨a, _, _, rfl, SqT.of ha, rfl, _, "str", true, rfl, .str_str, _, rfl, iteF ?_⟩)⟩⟩
      · have := V.int.inj (of_decide_eq_true hc)
        rw [List.length_cons] at this
        omega
      refine ⟨a, _, _, rfl, SqT.of ha, rfl, x, rfl, ?_⟩
      rw [eg]
      refine ⟨_, rfl, rfl, _, rfl, iteF ⟨_, rfl, a, _, rfl, .inr (SqT.of ha), _, rfl, g, _, rfl, .inr (hg H), _, _, rfl, rfl, rfl, _, rfl, ite2 (fun hc => ?_) (fun _ => ?_)⟩⟩
      · exfalso
        have hc' : (!decide (V.int (((V.str x :: us).length : Nat) : Int) = V.int (((ks.map V.str).length : Nat) + 1))) = true := hc
        rw [decide_eq_true (by rw [List.length_cons, List.length_map, ul]; rfl)] at hc'
        cases hc'
      refine ⟨_, rfl, _, rfl, _, rfl, a, _, rfl, ha, fun c H1 s1 hc => ?_⟩
      have ec : cutV (V.str x :: us) (some 1) none = us := by
        have := cut_from1 x us
        exact this
      rw [ec] at hc
      refine ⟨g, c, rfl, ⟨_, hg H1⟩, ⟨_, SqT.of hc⟩, fun D nD => ?_⟩
      refine comp_zip2 (hg H1) (SqT.of hc) (by rw [List.length_map, ul]) (fun i v => ∀ β, βs[i]? = some β → v = .bl β) nD (by omega) (fun i kx u T' Hx R hk hu sx hT hR => ?_) (fun zs H2 s2 hD zl hz => ?_)
      · rw [List.getElem?_map] at hk
        obtain ⟨kd, hkd, rfl⟩ := Option.map_eq_some_iff.mp hk
        obtain ⟨β', hβ⟩ : ∃ β, βs[i]? = some β := ⟨_, List.getElem?_eq_getElem (by have := (List.getElem?_eq_some_iff.mp hkd).1; omega)⟩
        refine ⟨T', _, rfl, SqT.of hT, rfl, _, _, rfl, _, _, rfl, rfl, ((Keep.refl _).set rfl).set rfl, _, rfl, _, rfl, _, rfl, b, nb, kd, u, β', rfl, bn.keep (s1.trans sx), (eq i kd u β' hkd hu hβ).keep (s1.trans sx), fun H3 s3 => hR _ _ s3 fun β2 h2 => ?_⟩
        rw [hβ] at h2
        cases h2
        rfl
      have ez : zs = βs.map V.bl := by
        refine list_eq (by rw [zl, List.length_map, List.length_map, bl']) fun i x' y' hx' hy' => ?_
        rw [List.getElem?_map] at hx'
        obtain ⟨β', hβ, rfl⟩ := Option.map_eq_some_iff.mp hx'
        exact hz i y' hy' β' hβ
      subst ez
      have s02 := s1.trans s2
      refine ⟨D, βs, rfl, SqL.of hD, _, rfl, ite2 (fun hc => ?_) (fun hc => ?_)⟩
      · have hf' : βs.all id = false := by simpa using hc
        have := k H2 s02
        rw [n1 hf'] at this
        exact this
      · have ht : βs.all id = true := by simpa using hc
        have kk := k H2 s02
        have ha2 := s02 _ _ ha
        refine ⟨a, _, _, rfl, SqT.of ha2, rfl, rfl, _, rfl, ?_⟩
        rcases n2 ht with ⟨nx, e⟩ | ⟨rfl, p, o, w', rfl, e⟩
        · refine ite2 (fun _ => by rw [e] at kk; exact kk) (fun hc2 => ?_)
          exfalso
          refine hc2 ?_
          show (!decide (V.str x = V.str "pour")) = true
          rw [decide_eq_false fun z => nx (V.str.inj z)]
          rfl
        · refine iteF ⟨a, _, _, rfl, SqT.of ha2, rfl, a, _, _, rfl, SqT.of ha2, rfl, rfl, ?_⟩
          rw [e] at kk
          exact kk
end
end K36

namespace L2
open PySem PySem.Spec PyProof.Rows PySem.W
/-! ### try .. except D: .. (the error gets no name) -/
def tTryN (K : Frag) (Dc : Addr) (tb : St → XK → TS) (th : TS) : TS := fun D σ H => tb σ (fun cls _ H' => ∃ C, cls = .ref C ∧ ExK K C ∧ subIn K (.ref C) (.ref Dc) = some true ∧ th D σ H') D σ H
section
variable {X : Cx}
theorem ps_tryN {body hb : List Stmt} {b0 : Stmt} {tb : St → XK → TS} {th : TS} {d : Str} {dp hpos pos : Pos} {Dc : Addr} (O : OwnF X) (hg : Gl X d) (hm : X.mg d = some (.ref Dc)) (F : CtK X.K Dc)
    (hb' : ∀ (pins : List (Addr × Obj)) (E' : Value → Shared → Prop) (σ : St) (Ec : XK), PassesAt (CXg X.prog X.w) (X.trying pins E') σ Ec → PSs (X.trying pins E') body (tb σ Ec))
    (hh : ∀ ea : Addr, PSs (X.within (.ref ea)) (b0 :: hb) th)
    (hdb : (d == ("__debug__" : Str)) = false := by decide) :
    PS X (.Try body [.ExceptHandler (some (.Name d dp)) none (b0 :: hb) hpos] [] [] pos) (tTryN X.K Dc tb th) := by
  intro pins s σ H D I h
  refine wpAny_Try_except (wpAny_mono (hb' pins _ σ _ ?hp [] s σ H D (I.trying _) h) (fun f s1 z => ?_) fun _ _ z => z)
  case hp =>
    intro pl Hc sc e s' I0 hx
    have I1 : Inv X pins σ Hc sc := I0.tried
    obtain ⟨ea, C, dd, H', rfl, Fl, C', e1, FK, hsub, hk⟩ := hx
    cases e1
    obtain ⟨B, hok, fl, bk, th⟩ := Fl.fl
    have hfr : X.A.frames = some (X.env :: X.outer) := by rw [← O.stk]; exact I1.ok.frames
    have fl' : FlyD B (X.env :: X.outer) ea (.ref C) dd .none s'.heap := by rw [← O.stk]; exact fl
    refine noteD hfr O.fr fl' fun h4 held4 up4 => ?_
    refine flightD held4 fun h5 fl5 up5 => ?_
    have mk : ∀ h6 : Heap, B.StaysIn h6 → s'.heap.UpToSlots h6 → Inv X pins σ H' { s' with heap := h6 } := fun h6 st up =>
      I1.call' (s' := { s' with heap := h6 }) (ch := []) Fl.os (un_here I1 Fl.un bk th st up) (hok.kept st) Fl.bare (by simp)
    have I5 := mk h5 fl5.st (up4.trans up5)
    obtain ⟨ob, _, hob, hobc, _, _⟩ := fl5.at
    refine wpAny_handleBy_cons (codeAny_handlers_test (ld_glob (I5.within (.ref ea)) hg hm ?_ hdb)) (by intro q; cases q)
    refine exc_matches I5.kIn ⟨hob, hobc⟩ F hsub ?_
    refine codeAny_handlers_suite ?_
    refine flightD fl5 fun h6 fl6 up6 => ?_
    have I6 := mk h6 fl6.st ((up4.trans up5).trans up6)
    refine wpAny_mono (hh ea pins _ σ H' D (I6.within (.ref ea)) hk) (fun f s9 hf => ?_) (fun _ _ q => q.elim)
    cases f with
    | next =>
      obtain ⟨σ9, H9, I9, q⟩ := hf
      exact ⟨σ9, H9, I9.without I1.ok, q⟩
    | brk =>
      obtain ⟨σ9, H9, I9, q⟩ := hf
      exact ⟨σ9, H9, I9.without I1.ok, q⟩
    | cont =>
      obtain ⟨σ9, H9, I9, q⟩ := hf
      exact ⟨σ9, H9, I9.without I1.ok, q⟩
    | ret u =>
      obtain ⟨v, σ9, H9, I9, r, q⟩ := hf
      exact ⟨v, σ9, H9, I9.without I1.ok, r, q⟩
  · have z' := SP.tried z
    cases f with
    | next => exact wpAny_execs_nil z'
    | brk => exact z'
    | cont => exact z'
    | ret u => exact z'
end
end L2

namespace L2
open PySem PySem.Spec PyProof.Rows PySem.W
section
variable {X : Cx}
/-! ### a tuple against the empty one -/
theorem op_neT0 (hu : X.A.units + 64 < cLine) : OpR X (compareOp .NotEq) (fun x y H Q => ∃ a b xs, x = .ref a ∧ y = .ref b ∧ SqT X.K H a xs ∧ SqT X.K H b [] ∧ Q (.bl (!xs.isEmpty)) H) := by
  intro pins s σ H x y v u Q I rx ry h
  obtain ⟨a, b, xs, rfl, rfl, ha, hb, q⟩ := h
  cases rx
  cases ry
  obtain ⟨its, r, p, _⟩ := I.tuple ha
  obtain ⟨its', r', p', _⟩ := I.tuple hb
  cases r'
  obtain ⟨o, o1, o2, n, o3⟩ := p
  obtain ⟨o', o1', o2', n', o3'⟩ := p'
  have key := SeqAt.RcNeAt.tuples (A := X.A) (s := s) (l := a) (b := b) (items := its.toArray) (items2 := #[]) (e := fun _ => true) ⟨o, o1, o2, n, o3⟩ ⟨o', o1', o2', n', o3'⟩ (by omega) (fun j h1 h2 => absurd h2 (by simp))
  cases r with
  | nil => exact key X.prog X.w X.xe _ ⟨.bl _, H, I, rfl, q⟩
  | cons r t => exact key X.prog X.w X.xe _ ⟨.bl _, H, I, rfl, q⟩
end
end L2

namespace K36
open PySem PySem.Spec PyProof.Rows L2 GM TM
abbrev sINo : Stmt := inClass (top 4) 0
abbrev sIDraw : Stmt := inClass (top 33) 0
abbrev sODraw : Stmt := inClass (top 33) 1
abbrev sTDraw : Stmt := inClass (top 33) 2
abbrev sIFill : Stmt := inClass (top 34) 0
abbrev sOFill : Stmt := inClass (top 34) 1
abbrev sTFill : Stmt := inClass (top 34) 2
abbrev sIPour : Stmt := inClass (top 35) 0
abbrev sOPour : Stmt := inClass (top 35) 1
abbrev sTPour : Stmt := inClass (top 35) 2
abbrev sIEmpty : Stmt := inClass (top 36) 0
abbrev sOEmpty : Stmt := inClass (top 36) 1
abbrev sTEmpty : Stmt := inClass (top 36) 2
abbrev sIRinse : Stmt := inClass (top 37) 0
abbrev sORinse : Stmt := inClass (top 37) 1
abbrev sTRinse : Stmt := inClass (top 37) 2
structure ErD (K : PySem.W.Frag) (mg : Str → Option Value) (cP c0 c1 c2 c3 c4 c5 fI : Addr) : Prop where
  ef : ExF K c5 cP fI "place"
  ct : CtK K cP
  bi : BaseI K cP
  s : PySem.W.subIn K (.ref c5) (.ref cP) = some true
  iV : PySem.W.kitOne K (.ref c5) (.type "ValueError") = some true
  mP : mg "PhialError" = some (.ref cP)
  m0 : mg "Dry" = some (.ref c0)
  m1 : mg "Low" = some (.ref c1)
  m2 : mg "Wet" = some (.ref c2)
  m3 : mg "Spilt" = some (.ref c3)
  m4 : mg "Touch" = some (.ref c4)
  m5 : mg "NoDeed" = some (.ref c5)
  i0 : PySem.W.kitOne K (.ref c5) (.ref c0) = some false
  i1 : PySem.W.kitOne K (.ref c5) (.ref c1) = some false
  i2 : PySem.W.kitOne K (.ref c5) (.ref c2) = some false
  i3 : PySem.W.kitOne K (.ref c5) (.ref c3) = some false
  i4 : PySem.W.kitOne K (.ref c5) (.ref c4) = some false
  i5 : PySem.W.kitOne K (.ref c5) (.ref c5) = some true
def spINo (c : Addr) : Sp := fun vs H Q _ => ∃ (e : Addr) (n : Nat), vs = [.ref e, .int (n : Nat)] ∧ n < 1000 ∧ H e = some (exN e c none) ∧ ∀ dx, H dx = none → dx ≠ e → Q .non (upd (upd H e (exN e c (some dx))) dx (xdE dx [("place", .int (n : Nat))]))
/-- refused: no deed, at this place -/
def BadN (c : Addr) (n : Nat) (H : Hp) (E : XK) : Prop := ∀ dx H', Same H H' → H' dx = some (xdE dx [("place", .int (n : Nat))]) → E (.ref c) (some dx) H'
theorem BadN.mono {c : Addr} {n : Nat} {H H1 : Hp} {E : XK} (h : BadN c n H E) (s : Same H H1) : BadN c n H1 E := fun dx H' s' hd => h dx H' (s.trans s') hd
theorem raiseN {c : Addr} {n : Nat} {H : Hp} {E : XK} (rv : n < 1000) (h : BadN c n H E) : [V.int (n : Nat)].length ≤ sizeLine ∧ ∀ e, H e = none → spINo c [.ref e, .int (n : Nat)] (upd H e (exN e c none)) (fun v H2 => v = .non ∧ ∃ dd, H2 e = some (exN e c dd) ∧ E (.ref c) dd (rem H2 e)) E0 := by
  refine ⟨(by show 1 ≤ sizeLine; decide), fun e he => ⟨e, n, rfl, rv, upd_same, fun dx hd ne => ⟨rfl, some dx, ?_, ?_⟩⟩⟩
  · rw [upd_ne (Ne.symm ne), upd_same]
  · have hd' : H dx = none := by
      rw [upd_ne ne] at hd
      exact hd
    refine h dx _ (fun b o hb => ?_) ?_
    · have n1 : b ≠ e := fun z => by rw [z, he] at hb; cases hb
      have n2 : b ≠ dx := fun z => by rw [z, hd'] at hb; cases hb
      rw [rem_ne n1, upd_ne n2, upd_ne n1, upd_ne n1]
      exact hb
    · rw [rem_ne ne, upd_same]
def fs3 (f1 f2 f3 : Str) (u1 u2 u3 : V) : List (Str × V) := putF f3 u3 (putF f2 u2 (putF f1 u1 []))
def fs1 (f1 : Str) (u1 : V) : List (Str × V) := putF f1 u1 []
def spMk3 (C : Addr) (f1 f2 f3 : Str) : Sp := fun vs H Q _ => ∃ (p dx : Addr) (u1 u2 u3 : V), vs = [.ref p, u1, u2, u3] ∧ H p = some (.ins C dx []) ∧ ∀ H', (∀ b o, b ≠ p → H b = some o → H' b = some o) → H' p = some (.ins C dx (fs3 f1 f2 f3 u1 u2 u3)) → Q .non H'
def spMk1 (C : Addr) (f1 : Str) : Sp := fun vs H Q _ => ∃ (p dx : Addr) (u1 : V), vs = [.ref p, u1] ∧ H p = some (.ins C dx []) ∧ ∀ H', (∀ b o, b ≠ p → H b = some o → H' b = some o) → H' p = some (.ins C dx (fs1 f1 u1)) → Q .non H'
def spTold3 (C : Addr) (wd f1 f2 f3 : Str) : Sp := fun vs H Q _ => ∃ (p dx : Addr) (u1 u2 u3 : V), vs = [.ref p] ∧ H p = some (.ins C dx (fs3 f1 f2 f3 u1 u2 u3)) ∧ ∀ z, H z = none → Q (.ref z) (upd H z (.tup [.str wd, u1, u2, u3]))
def spTold1 (C : Addr) (wd f1 : Str) : Sp := fun vs H Q _ => ∃ (p dx : Addr) (u1 : V), vs = [.ref p] ∧ H p = some (.ins C dx (fs1 f1 u1)) ∧ ∀ z, H z = none → Q (.ref z) (upd H z (.tup [.str wd, u1]))
theorem len_putF (f : Str) (v : V) : ∀ fs : List (Str × V), (putF f v fs).length ≤ fs.length + 1
  | [] => Nat.le_refl _
  | (g, x) :: r => by
    unfold putF
    split
    · exact Nat.le_succ _
    · exact Nat.succ_le_succ (len_putF f v r)
theorem fs3_1 {f1 f2 f3 : Str} {u1 u2 u3 : V} (n3 : f1 ≠ f3) (n2 : f1 ≠ f2) : (fs3 f1 f2 f3 u1 u2 u3).lookup f1 = some u1 := by
  unfold fs3
  rw [lookup_putF, if_neg n3, lookup_putF, if_neg n2, lookup_putF, if_pos rfl]
theorem fs3_2 {f1 f2 f3 : Str} {u1 u2 u3 : V} (n3 : f2 ≠ f3) : (fs3 f1 f2 f3 u1 u2 u3).lookup f2 = some u2 := by
  unfold fs3
  rw [lookup_putF, if_neg n3, lookup_putF, if_pos rfl]
theorem fs3_3 {f1 f2 f3 : Str} {u1 u2 u3 : V} : (fs3 f1 f2 f3 u1 u2 u3).lookup f3 = some u3 := by
  unfold fs3
  rw [lookup_putF, if_pos rfl]
theorem fs3_no {f1 f2 f3 m : Str} {u1 u2 u3 : V} (n1 : m ≠ f1) (n2 : m ≠ f2) (n3 : m ≠ f3) : (fs3 f1 f2 f3 u1 u2 u3).lookup m = none := by
  unfold fs3
  rw [lookup_putF, if_neg n3, lookup_putF, if_neg n2, lookup_putF, if_neg n1]
  rfl
theorem fs1_1 {f1 : Str} {u1 : V} : (fs1 f1 u1).lookup f1 = some u1 := by
  unfold fs1
  rw [lookup_putF, if_pos rfl]
theorem fs1_no {f1 m : Str} {u1 : V} (n1 : m ≠ f1) : (fs1 f1 u1).lookup m = none := by
  unfold fs1
  rw [lookup_putF, if_neg n1]
  rfl
/-- a class of deeds -/
structure DCl (K : PySem.W.Frag) (C : Addr) (fs : List Str) : Prop where
  cl : Cls K C
  na : ∀ f ∈ fs, NoAttr K C f
section
variable {P : Program} {w : World} {K : PySem.W.Frag} {mg : Str → Option Value} {base : Heap} {cP c0 c1 c2 c3 c4 c5 fI C : Addr}
theorem cpsT (t : Nat) : cps ((toString (t : Int) : String) : Str) = dg t := PySem.W.KIN.signs_num t
theorem logT {t : Nat} (h : t < 10 ^ 60) : ((t : Int)).natAbs.log2 < 1920 := by
  rw [Int.natAbs_natCast]
  by_cases z : t = 0
  · subst z
    decide
  · exact (Nat.log2_lt z).mpr (Nat.lt_trans h (by decide +kernel))
theorem row_len {n : Nat} (h : n < 1000) : ((toString (n : Int) : String) : Str).length ≤ 60 := by
  rw [lenC, cpsT]
  exact dg_len (Nat.lt_trans h (by decide +kernel))
theorem scINo : FnScope ["self", "place"] ["self", "place"] (defScope sINo) := ⟨rfl, rfl, rfl, by decide +kernel, rfl, by decide +kernel, by decide +kernel⟩
theorem ok_ino {f : Addr} {fd : FuncData} (F : Fun K "__init__" "NoDeed.__init__" sINo f fd) (R : ErD K mg cP c0 c1 c2 c3 c4 c5 fI) : FnOk P w K mg base CX0 1 f fd ["self", "place"] (spINo c5) := by
  refine F.ok scINo (fun vs H Q E h => ?_) (fun cdv A outer s H vs Q E hr h => ?_)
  · obtain ⟨_, _, rfl, _⟩ := h
    rfl
  · obtain ⟨e, n, rfl, hn, he, k⟩ := h
    refine ⟨_, pss_cons (ps_expr (pe_binit rfl R.mP R.bi (pa_cons (pv 0) (pa_cons (pe_join (pj_cons pe_str (pj_cons (pe_fmt (pv 1)) (pj_cons pe_str pj_nil)))) pa_nil))))
      (pss_one (ps_exN (C := c5) (P := cP) (f := fI) rfl (pv 0) (pv 1) rfl)), ?_⟩
    have hl := row_len hn
    have lE : Str.empty.length = 0 := rfl
    have l1 : ("row " : Str).length = 4 := by decide +kernel
    have l2 : (" is no deed" : Str).length = 11 := by decide +kernel
    refine ⟨_, rfl, _, rfl, ?_, _, rfl, _, ⟨logT (Nat.lt_trans hn (by decide +kernel)), rfl⟩, _, rfl, ?_, _, rfl, ?_, ?_, e, c5, none, fI, _, rfl, he, R.ef.i, ?_⟩
    · rw [lenA, lE]; exact sz1000 (by omega)
    · rw [lenA, lenA, lE]; exact sz1000 (by omega)
    · rw [lenA, lenA, lenA, lE]; exact sz1000 (by omega)
    · rw [lenA, lenA, lenA, lE]; exact sz1000 (by omega)
    · exact ⟨_, rfl, _, rfl, e, rfl, he, R.ef, fun dx hd ne => k dx hd ne⟩
theorem scIDraw : FnScope ["self", "phial", "ware", "amount"] ["self", "phial", "ware", "amount"] (defScope sIDraw) := ⟨rfl, rfl, rfl, by decide +kernel, rfl, by decide +kernel, by decide +kernel⟩
theorem ok_iDraw {f : Addr} {fd : FuncData} (F : Fun K "__init__" "Draw.__init__" sIDraw f fd) (D : DCl K C ["phial", "ware", "amount"]) : FnOk P w K mg base CX0 1 f fd ["self", "phial", "ware", "amount"] (spMk3 C "phial" "ware" "amount") := by
  refine F.ok scIDraw (fun vs H Q E h => ?_) (fun cdv A outer s H vs Q E hr h => ?_)
  · obtain ⟨_, _, _, _, _, rfl, _⟩ := h
    rfl
  · obtain ⟨p, dx, u1, u2, u3, rfl, hp, k⟩ := h
    refine ⟨_, (pss_cons (ps_fld (pv 0) (pv 1) rfl) (pss_cons (ps_fld (pv 0) (pv 2) rfl) (pss_one (ps_fld (pv 0) (pv 3) rfl)))), ?_⟩
    refine ⟨_, rfl, _, rfl, p, C, dx, [], rfl, hp, D.cl, D.na _ (by simp), (by show 0 < 1000; decide), ?_⟩
    refine ⟨_, rfl, _, rfl, p, C, dx, _, rfl, upd_same, D.cl, D.na _ (by simp), (by show 1 < 1000; decide), ?_⟩
    refine ⟨_, rfl, _, rfl, p, C, dx, _, rfl, upd_same, D.cl, D.na _ (by simp), (Nat.lt_of_le_of_lt (len_putF ..) (by show 2 < 1000; decide)), k _ (fun b o nb hb => by rw [upd_ne nb, upd_ne nb, upd_ne nb]; exact hb) upd_same⟩
theorem scTDraw : FnScope ["self"] ["self"] (defScope sTDraw) := ⟨rfl, rfl, rfl, by decide +kernel, rfl, by decide +kernel, by decide +kernel⟩
theorem ok_tDraw {f : Addr} {fd : FuncData} (F : Fun K "told" "Draw.told" sTDraw f fd) (D : DCl K C ["phial", "ware", "amount"]) : FnOk P w K mg base CX0 1 f fd ["self"] (spTold3 C "draw" "phial" "ware" "amount") := by
  refine F.ok scTDraw (fun vs H Q E h => ?_) (fun cdv A outer s H vs Q E hr h => ?_)
  · obtain ⟨_, _, _, _, _, rfl, _⟩ := h
    rfl
  · obtain ⟨p, dx, u1, u2, u3, rfl, hp, k⟩ := h
    refine ⟨_, pss_one (ps_ret (pe_tup (pa_cons pe_str (pa_cons (pe_fld (pv 0) rfl) (pa_cons (pe_fld (pv 0) rfl) (pa_cons (pe_fld (pv 0) rfl) pa_nil)))))), ?_⟩
    refine ⟨_, rfl, p, C, dx, _, u1, rfl, hp, D.cl, D.na _ (by simp), fs3_1 (by decide +kernel) (by decide +kernel), _, rfl, p, C, dx, _, u2, rfl, hp, D.cl, D.na _ (by simp), fs3_2 (by decide +kernel), _, rfl, p, C, dx, _, u3, rfl, hp, D.cl, D.na _ (by simp), fs3_3, (by show 4 ≤ sizeLine; decide), fun z nz => k z nz⟩
theorem scIFill : FnScope ["self", "phial", "ware", "level"] ["self", "phial", "ware", "level"] (defScope sIFill) := ⟨rfl, rfl, rfl, by decide +kernel, rfl, by decide +kernel, by decide +kernel⟩
theorem ok_iFill {f : Addr} {fd : FuncData} (F : Fun K "__init__" "Fill.__init__" sIFill f fd) (D : DCl K C ["phial", "ware", "level"]) : FnOk P w K mg base CX0 1 f fd ["self", "phial", "ware", "level"] (spMk3 C "phial" "ware" "level") := by
  refine F.ok scIFill (fun vs H Q E h => ?_) (fun cdv A outer s H vs Q E hr h => ?_)
  · obtain ⟨_, _, _, _, _, rfl, _⟩ := h
    rfl
  · obtain ⟨p, dx, u1, u2, u3, rfl, hp, k⟩ := h
    refine ⟨_, (pss_cons (ps_fld (pv 0) (pv 1) rfl) (pss_cons (ps_fld (pv 0) (pv 2) rfl) (pss_one (ps_fld (pv 0) (pv 3) rfl)))), ?_⟩
    refine ⟨_, rfl, _, rfl, p, C, dx, [], rfl, hp, D.cl, D.na _ (by simp), (by show 0 < 1000; decide), ?_⟩
    refine ⟨_, rfl, _, rfl, p, C, dx, _, rfl, upd_same, D.cl, D.na _ (by simp), (by show 1 < 1000; decide), ?_⟩
    refine ⟨_, rfl, _, rfl, p, C, dx, _, rfl, upd_same, D.cl, D.na _ (by simp), (Nat.lt_of_le_of_lt (len_putF ..) (by show 2 < 1000; decide)), k _ (fun b o nb hb => by rw [upd_ne nb, upd_ne nb, upd_ne nb]; exact hb) upd_same⟩
theorem scTFill : FnScope ["self"] ["self"] (defScope sTFill) := ⟨rfl, rfl, rfl, by decide +kernel, rfl, by decide +kernel, by decide +kernel⟩
theorem ok_tFill {f : Addr} {fd : FuncData} (F : Fun K "told" "Fill.told" sTFill f fd) (D : DCl K C ["phial", "ware", "level"]) : FnOk P w K mg base CX0 1 f fd ["self"] (spTold3 C "fill" "phial" "ware" "level") := by
  refine F.ok scTFill (fun vs H Q E h => ?_) (fun cdv A outer s H vs Q E hr h => ?_)
  · obtain ⟨_, _, _, _, _, rfl, _⟩ := h
    rfl
  · obtain ⟨p, dx, u1, u2, u3, rfl, hp, k⟩ := h
    refine ⟨_, pss_one (ps_ret (pe_tup (pa_cons pe_str (pa_cons (pe_fld (pv 0) rfl) (pa_cons (pe_fld (pv 0) rfl) (pa_cons (pe_fld (pv 0) rfl) pa_nil)))))), ?_⟩
    refine ⟨_, rfl, p, C, dx, _, u1, rfl, hp, D.cl, D.na _ (by simp), fs3_1 (by decide +kernel) (by decide +kernel), _, rfl, p, C, dx, _, u2, rfl, hp, D.cl, D.na _ (by simp), fs3_2 (by decide +kernel), _, rfl, p, C, dx, _, u3, rfl, hp, D.cl, D.na _ (by simp), fs3_3, (by show 4 ≤ sizeLine; decide), fun z nz => k z nz⟩
theorem scIPour : FnScope ["self", "one", "other", "part"] ["self", "one", "other", "part"] (defScope sIPour) := ⟨rfl, rfl, rfl, by decide +kernel, rfl, by decide +kernel, by decide +kernel⟩
theorem ok_iPour {f : Addr} {fd : FuncData} (F : Fun K "__init__" "Pour.__init__" sIPour f fd) (D : DCl K C ["one", "other", "part"]) : FnOk P w K mg base CX0 1 f fd ["self", "one", "other", "part"] (spMk3 C "one" "other" "part") := by
  refine F.ok scIPour (fun vs H Q E h => ?_) (fun cdv A outer s H vs Q E hr h => ?_)
  · obtain ⟨_, _, _, _, _, rfl, _⟩ := h
    rfl
  · obtain ⟨p, dx, u1, u2, u3, rfl, hp, k⟩ := h
    refine ⟨_, (pss_cons (ps_fld (pv 0) (pv 1) rfl) (pss_cons (ps_fld (pv 0) (pv 2) rfl) (pss_one (ps_fld (pv 0) (pv 3) rfl)))), ?_⟩
    refine ⟨_, rfl, _, rfl, p, C, dx, [], rfl, hp, D.cl, D.na _ (by simp), (by show 0 < 1000; decide), ?_⟩
    refine ⟨_, rfl, _, rfl, p, C, dx, _, rfl, upd_same, D.cl, D.na _ (by simp), (by show 1 < 1000; decide), ?_⟩
    refine ⟨_, rfl, _, rfl, p, C, dx, _, rfl, upd_same, D.cl, D.na _ (by simp), (Nat.lt_of_le_of_lt (len_putF ..) (by show 2 < 1000; decide)), k _ (fun b o nb hb => by rw [upd_ne nb, upd_ne nb, upd_ne nb]; exact hb) upd_same⟩
theorem scTPour : FnScope ["self"] ["self"] (defScope sTPour) := ⟨rfl, rfl, rfl, by decide +kernel, rfl, by decide +kernel, by decide +kernel⟩
theorem ok_tPour {f : Addr} {fd : FuncData} (F : Fun K "told" "Pour.told" sTPour f fd) (D : DCl K C ["one", "other", "part"]) : FnOk P w K mg base CX0 1 f fd ["self"] (spTold3 C "pour" "one" "other" "part") := by
  refine F.ok scTPour (fun vs H Q E h => ?_) (fun cdv A outer s H vs Q E hr h => ?_)
  · obtain ⟨_, _, _, _, _, rfl, _⟩ := h
    rfl
  · obtain ⟨p, dx, u1, u2, u3, rfl, hp, k⟩ := h
    refine ⟨_, pss_one (ps_ret (pe_tup (pa_cons pe_str (pa_cons (pe_fld (pv 0) rfl) (pa_cons (pe_fld (pv 0) rfl) (pa_cons (pe_fld (pv 0) rfl) pa_nil)))))), ?_⟩
    refine ⟨_, rfl, p, C, dx, _, u1, rfl, hp, D.cl, D.na _ (by simp), fs3_1 (by decide +kernel) (by decide +kernel), _, rfl, p, C, dx, _, u2, rfl, hp, D.cl, D.na _ (by simp), fs3_2 (by decide +kernel), _, rfl, p, C, dx, _, u3, rfl, hp, D.cl, D.na _ (by simp), fs3_3, (by show 4 ≤ sizeLine; decide), fun z nz => k z nz⟩
theorem scIEmpty : FnScope ["self", "phial"] ["self", "phial"] (defScope sIEmpty) := ⟨rfl, rfl, rfl, by decide +kernel, rfl, by decide +kernel, by decide +kernel⟩
theorem ok_iEmpty {f : Addr} {fd : FuncData} (F : Fun K "__init__" "Empty.__init__" sIEmpty f fd) (D : DCl K C ["phial"]) : FnOk P w K mg base CX0 1 f fd ["self", "phial"] (spMk1 C "phial") := by
  refine F.ok scIEmpty (fun vs H Q E h => ?_) (fun cdv A outer s H vs Q E hr h => ?_)
  · obtain ⟨_, _, _, rfl, _⟩ := h
    rfl
  · obtain ⟨p, dx, u1, rfl, hp, k⟩ := h
    refine ⟨_, pss_one (ps_fld (pv 0) (pv 1) rfl), ?_⟩
    exact ⟨_, rfl, _, rfl, p, C, dx, [], rfl, hp, D.cl, D.na _ (by simp), (by show 0 < 1000; decide), k _ (fun b o nb hb => by rw [upd_ne nb]; exact hb) upd_same⟩
theorem scTEmpty : FnScope ["self"] ["self"] (defScope sTEmpty) := ⟨rfl, rfl, rfl, by decide +kernel, rfl, by decide +kernel, by decide +kernel⟩
theorem ok_tEmpty {f : Addr} {fd : FuncData} (F : Fun K "told" "Empty.told" sTEmpty f fd) (D : DCl K C ["phial"]) : FnOk P w K mg base CX0 1 f fd ["self"] (spTold1 C "empty" "phial") := by
  refine F.ok scTEmpty (fun vs H Q E h => ?_) (fun cdv A outer s H vs Q E hr h => ?_)
  · obtain ⟨_, _, _, rfl, _⟩ := h
    rfl
  · obtain ⟨p, dx, u1, rfl, hp, k⟩ := h
    refine ⟨_, pss_one (ps_ret (pe_tup (pa_cons pe_str (pa_cons (pe_fld (pv 0) rfl) pa_nil)))), ?_⟩
    exact ⟨_, rfl, p, C, dx, _, u1, rfl, hp, D.cl, D.na _ (by simp), fs1_1, (by show 2 ≤ sizeLine; decide), fun z nz => k z nz⟩
theorem scIRinse : FnScope ["self", "phial"] ["self", "phial"] (defScope sIRinse) := ⟨rfl, rfl, rfl, by decide +kernel, rfl, by decide +kernel, by decide +kernel⟩
theorem ok_iRinse {f : Addr} {fd : FuncData} (F : Fun K "__init__" "Rinse.__init__" sIRinse f fd) (D : DCl K C ["phial"]) : FnOk P w K mg base CX0 1 f fd ["self", "phial"] (spMk1 C "phial") := by
  refine F.ok scIRinse (fun vs H Q E h => ?_) (fun cdv A outer s H vs Q E hr h => ?_)
  · obtain ⟨_, _, _, rfl, _⟩ := h
    rfl
  · obtain ⟨p, dx, u1, rfl, hp, k⟩ := h
    refine ⟨_, pss_one (ps_fld (pv 0) (pv 1) rfl), ?_⟩
    exact ⟨_, rfl, _, rfl, p, C, dx, [], rfl, hp, D.cl, D.na _ (by simp), (by show 0 < 1000; decide), k _ (fun b o nb hb => by rw [upd_ne nb]; exact hb) upd_same⟩
theorem scTRinse : FnScope ["self"] ["self"] (defScope sTRinse) := ⟨rfl, rfl, rfl, by decide +kernel, rfl, by decide +kernel, by decide +kernel⟩
theorem ok_tRinse {f : Addr} {fd : FuncData} (F : Fun K "told" "Rinse.told" sTRinse f fd) (D : DCl K C ["phial"]) : FnOk P w K mg base CX0 1 f fd ["self"] (spTold1 C "rinse" "phial") := by
  refine F.ok scTRinse (fun vs H Q E h => ?_) (fun cdv A outer s H vs Q E hr h => ?_)
  · obtain ⟨_, _, _, rfl, _⟩ := h
    rfl
  · obtain ⟨p, dx, u1, rfl, hp, k⟩ := h
    refine ⟨_, pss_one (ps_ret (pe_tup (pa_cons pe_str (pa_cons (pe_fld (pv 0) rfl) pa_nil)))), ?_⟩
    exact ⟨_, rfl, p, C, dx, _, u1, rfl, hp, D.cl, D.na _ (by simp), fs1_1, (by show 2 ≤ sizeLine; decide), fun z nz => k z nz⟩
end
end K36

namespace K36
open PySem PySem.Spec PyProof.Rows L2 GM TM
/-- the object that a row tells -/
inductive DeedO (CD CF CP CE CR : Addr) : Str → List V → Addr → List (Str × V) → Prop where
  | draw (u1 u2 u3) : DeedO CD CF CP CE CR "draw" [u1, u2, u3] CD (fs3 "phial" "ware" "amount" u1 u2 u3)
  | fill (u1 u2 u3) : DeedO CD CF CP CE CR "fill" [u1, u2, u3] CF (fs3 "phial" "ware" "level" u1 u2 u3)
  | pour (u1 u2 u3) : DeedO CD CF CP CE CR "pour" [u1, u2, u3] CP (fs3 "one" "other" "part" u1 u2 u3)
  | empty (u1) : DeedO CD CF CP CE CR "empty" [u1] CE (fs1 "phial" u1)
  | rinse (u1) : DeedO CD CF CP CE CR "rinse" [u1] CR (fs1 "phial" u1)
def spDeedAt (K : PySem.W.Frag) (c CD CF CP CE CR : Addr) : Sp := fun vs H Q E => ∃ b nb v β n, vs = [.ref b, v, .int (n : Nat)] ∧ n < 1000 ∧ BnV H b nb ∧ RowV K H nb v β ∧
  (β = true → ∀ a x us p dx C fs H', v = .ref a → H a = some (.tup (.str x :: us)) → Same H H' → H p = none → H' p = some (.ins C dx fs) → DeedO CD CF CP CE CR x us C fs → Q (.ref p) H') ∧ (β = false → BadN c n H E)
def spDeedOf (K : PySem.W.Frag) (c CD CF CP CE CR : Addr) : Sp := fun vs H Q E => ∃ b nb v β, vs = [.ref b, v] ∧ BnV H b nb ∧ RowV K H nb v β ∧
  (β = true → ∀ a x us p dx C fs H', v = .ref a → H a = some (.tup (.str x :: us)) → Same H H' → H p = none → H' p = some (.ins C dx fs) → DeedO CD CF CP CE CR x us C fs → Q (.ref p) H') ∧ (β = false → BadN c 0 H E)
/-- how a class of deeds is made -/
structure MkD (P : Program) (w : World) (K : PySem.W.Frag) (mg : Str → Option Value) (base : Heap) (C : Addr) (nm : Str) (ps : List Str) (sp : Sp) : Prop where
  ex : ∃ f fd, Mk K C f ∧ FnOk P w K mg base CX0 4 f fd ps sp ∧ Binds K fd ps [] ∧ mg nm = some (.ref C)
/-- a true row by its word -/
theorem RowV.word {K : PySem.W.Frag} {H : Hp} {nb : Nat} {v : V} (h : RowV K H nb v true) : ∃ a, v = .ref a ∧ ((∃ u1 u2 u3, H a = some (.tup [.str "draw", u1, u2, u3])) ∨ (∃ u1 u2 u3, H a = some (.tup [.str "fill", u1, u2, u3])) ∨ (∃ u1 u2 u3, H a = some (.tup [.str "pour", u1, u2, u3])) ∨ (∃ u1, H a = some (.tup [.str "empty", u1])) ∨ ∃ u1, H a = some (.tup [.str "rinse", u1])) := by
  cases h with
  | @big a x us ks βs _ ha hf ek n1 n2 =>
    refine ⟨a, rfl, ?_⟩
    have ul := ek.1
    have three : ∀ {l : List V}, l.length = 3 → ∃ u1 u2 u3, l = [u1, u2, u3] := fun {l} e => by
      match l, e with
      | [a, b, c], _ => exact ⟨a, b, c, rfl⟩
    have one : ∀ {l : List V}, l.length = 1 → ∃ u1, l = [u1] := fun {l} e => by
      match l, e with
      | [a], _ => exact ⟨a, rfl⟩
    unfold frm at hf
    split at hf
    · rename_i e
      cases hf
      obtain ⟨u1, u2, u3, rfl⟩ := three ul
      exact .inl ⟨u1, u2, u3, by rw [e] at ha; exact ha⟩
    split at hf
    · rename_i e
      cases hf
      obtain ⟨u1, u2, u3, rfl⟩ := three ul
      exact .inr (.inl ⟨u1, u2, u3, by rw [e] at ha; exact ha⟩)
    split at hf
    · rename_i e
      cases hf
      obtain ⟨u1, u2, u3, rfl⟩ := three ul
      exact .inr (.inr (.inl ⟨u1, u2, u3, by rw [e] at ha; exact ha⟩))
    split at hf
    · rename_i e
      cases hf
      obtain ⟨u1, rfl⟩ := one ul
      exact .inr (.inr (.inr (.inl ⟨u1, by rw [e] at ha; exact ha⟩)))
    split at hf
    · rename_i e
      cases hf
      obtain ⟨u1, rfl⟩ := one ul
      exact .inr (.inr (.inr (.inr ⟨u1, by rw [e] at ha; exact ha⟩)))
    · cases hf
theorem sm0 {H H1 : Hp} {p : Addr} (h : Same H H1) (n : H1 p = none) : H p = none := by
  cases e : H p with
  | none => rfl
  | some o => rw [h _ _ e] at n; cases n
/-- made: all that was stays -/
theorem made_same {H H' : Hp} {p dx C : Addr} (np : H p = none) (nd : H dx = none) (kp : ∀ b o, b ≠ p → upd (upd H dx (.own p)) p (.ins C dx []) b = some o → H' b = some o) : Same H H' := fun b o e =>
  kp b o (ne_of_none e np) (by rw [upd_ne (ne_of_none e np), upd_ne (ne_of_none e nd)]; exact e)
section
variable {P : Program} {w : World} {K : PySem.W.Frag} {mg : Str → Option Value} {base : Heap} {cP c0 c1 c2 c3 c4 c5 fI CD CF CP CE CR : Addr}
theorem scDeedAt : FnScope ["bench", "row", "place"] ["bench", "row", "place"] (defScope sDeedAt) := ⟨rfl, rfl, rfl, by decide +kernel, rfl, by decide +kernel, by decide +kernel⟩
theorem ok_deedat {f : Addr} {fd fdI : FuncData} (F : Fun K "deed_at" "deed_at" sDeedAt f fd) (R : ErD K mg cP c0 c1 c2 c3 c4 c5 fI) (FI : FnOk P w K mg base CX0 1 fI fdI ["self", "place"] (spINo c5)) (bI : Binds K fdI ["self", "place"] []) (cR : Cal P w K mg base CX0 5 "is_row" ["bench", "row"] (spIsRow K))
    (D1 : MkD P w K mg base CD "Draw" ["self", "phial", "ware", "amount"] (spMk3 CD "phial" "ware" "amount")) (D2 : MkD P w K mg base CF "Fill" ["self", "phial", "ware", "level"] (spMk3 CF "phial" "ware" "level")) (D3 : MkD P w K mg base CP "Pour" ["self", "one", "other", "part"] (spMk3 CP "one" "other" "part")) (D4 : MkD P w K mg base CE "Empty" ["self", "phial"] (spMk1 CE "phial")) (D5 : MkD P w K mg base CR "Rinse" ["self", "phial"] (spMk1 CR "phial")) : FnOk P w K mg base (CXg P w) 6 f fd ["bench", "row", "place"] (spDeedAt K c5 CD CF CP CE CR) := by
  refine F.okF scDeedAt (fun vs H Q E h => ?_) (fun cdv A outer s H vs Q E hr h => ?_)
  · obtain ⟨_, _, _, _, _, rfl, _⟩ := h
    rfl
  · obtain ⟨b, nb, v, β, n, rfl, hn, bn, rv, kG, kB⟩ := h
    obtain ⟨f1, g1, M1, F1, b1, m1⟩ := D1.ex
    obtain ⟨f2, g2, M2, F2, b2, m2⟩ := D2.ex
    obtain ⟨f3, g3, M3, F3, b3, m3⟩ := D3.ex
    obtain ⟨f4, g4, M4, F4, b4, m4⟩ := D4.ex
    obtain ⟨f5, g5, M5, F5, b5, m5⟩ := D5.ex
    refine ⟨_, (pss_cons (ps_if (pt_not (pt_val (pe_cal cR hr rfl pass0 (pa_cons (pv 0) (pa_cons (pv 1) pa_nil)))))
        (pss_one (ps_raiseI (k := 1) rfl xe_f rfl (hr.mono (by decide)) rfl R.m5 R.ef.i FI bI (pa_cons (pv 2) pa_nil)))
        pss_nil)
      (pss_cons (ps_if (pt_cmpR op_eq (pit 1 0) pe_str (nomark _))
        (pss_one (ps_ret (pe_make M1 F1 hr rfl m1 b1 .nil pass0 (pa_cons (pit 1 1) (pa_cons (pit 1 2) (pa_cons (pit 1 3) pa_nil))))))
        pss_nil)
      (pss_cons (ps_if (pt_cmpR op_eq (pit 1 0) pe_str (nomark _))
        (pss_one (ps_ret (pe_make M2 F2 hr rfl m2 b2 .nil pass0 (pa_cons (pit 1 1) (pa_cons (pit 1 2) (pa_cons (pit 1 3) pa_nil))))))
        pss_nil)
      (pss_cons (ps_if (pt_cmpR op_eq (pit 1 0) pe_str (nomark _))
        (pss_one (ps_ret (pe_make M3 F3 hr rfl m3 b3 .nil pass0 (pa_cons (pit 1 1) (pa_cons (pit 1 2) (pa_cons (pit 1 3) pa_nil))))))
        pss_nil)
      (pss_one (ps_ret (pe_ifExp (pt_cmpR op_eq (pit 1 0) pe_str (nomark _)) (pe_make M4 F4 hr rfl m4 b4 .nil pass0 (pa_cons (pit 1 1) pa_nil)) (pe_make M5 F5 hr rfl m5 b5 .nil pass0 (pa_cons (pit 1 1) pa_nil))))))))), ?_⟩
    refine ⟨_, rfl, _, rfl, b, nb, v, β, rfl, bn, rv, fun H1 s1 => ⟨_, rfl, ite2 (fun hc => ?_) (fun hc => ?_)⟩⟩
    · have e : β = false := by simpa using hc
      exact ⟨_, rfl, raiseN hn ((kB e).mono s1)⟩
    · have e : β = true := by simpa using hc
      subst e
      have kG' := kG rfl
      obtain ⟨a, rfl, hw⟩ := rv.word
      rcases hw with ⟨u1, u2, u3, ha⟩ | ⟨u1, u2, u3, ha⟩ | ⟨u1, u2, u3, ha⟩ | ⟨u1, ha⟩ | ⟨u1, ha⟩
      · have sq := SqT.of (K := K) (s1 _ _ ha)
        refine ⟨a, _, _, rfl, sq, rfl, rfl, _, rfl, iteT ⟨a, _, _, rfl, sq, rfl, a, _, _, rfl, sq, rfl, a, _, _, rfl, sq, rfl, fun x dx nx ndx ne => ⟨x, dx, u1, u2, u3, rfl, upd_same, fun H' kp hx => ⟨rfl, ?_⟩⟩⟩⟩
        exact kG' a _ _ x dx _ _ H' rfl ha (s1.trans (made_same nx ndx kp)) (sm0 s1 nx) hx (.draw u1 u2 u3)
      · have sq := SqT.of (K := K) (s1 _ _ ha)
        refine ⟨a, _, _, rfl, sq, rfl, rfl, _, rfl, iteF ⟨a, _, _, rfl, sq, rfl, rfl, _, rfl, iteT ⟨a, _, _, rfl, sq, rfl, a, _, _, rfl, sq, rfl, a, _, _, rfl, sq, rfl, fun x dx nx ndx ne => ⟨x, dx, u1, u2, u3, rfl, upd_same, fun H' kp hx => ⟨rfl, ?_⟩⟩⟩⟩⟩
        exact kG' a _ _ x dx _ _ H' rfl ha (s1.trans (made_same nx ndx kp)) (sm0 s1 nx) hx (.fill u1 u2 u3)
      · have sq := SqT.of (K := K) (s1 _ _ ha)
        refine ⟨a, _, _, rfl, sq, rfl, rfl, _, rfl, iteF ⟨a, _, _, rfl, sq, rfl, rfl, _, rfl, iteF ⟨a, _, _, rfl, sq, rfl, rfl, _, rfl, iteT ⟨a, _, _, rfl, sq, rfl, a, _, _, rfl, sq, rfl, a, _, _, rfl, sq, rfl, fun x dx nx ndx ne => ⟨x, dx, u1, u2, u3, rfl, upd_same, fun H' kp hx => ⟨rfl, ?_⟩⟩⟩⟩⟩⟩
        exact kG' a _ _ x dx _ _ H' rfl ha (s1.trans (made_same nx ndx kp)) (sm0 s1 nx) hx (.pour u1 u2 u3)
      · have sq := SqT.of (K := K) (s1 _ _ ha)
        refine ⟨a, _, _, rfl, sq, rfl, rfl, _, rfl, iteF ⟨a, _, _, rfl, sq, rfl, rfl, _, rfl, iteF ⟨a, _, _, rfl, sq, rfl, rfl, _, rfl, iteF ⟨a, _, _, rfl, sq, rfl, rfl, _, rfl, iteT ⟨a, _, _, rfl, sq, rfl, fun x dx nx ndx ne => ⟨x, dx, u1, rfl, upd_same, fun H' kp hx => ⟨rfl, ?_⟩⟩⟩⟩⟩⟩⟩
        exact kG' a _ _ x dx _ _ H' rfl ha (s1.trans (made_same nx ndx kp)) (sm0 s1 nx) hx (.empty u1)
      · have sq := SqT.of (K := K) (s1 _ _ ha)
        refine ⟨a, _, _, rfl, sq, rfl, rfl, _, rfl, iteF ⟨a, _, _, rfl, sq, rfl, rfl, _, rfl, iteF ⟨a, _, _, rfl, sq, rfl, rfl, _, rfl, iteF ⟨a, _, _, rfl, sq, rfl, rfl, _, rfl, iteF ⟨a, _, _, rfl, sq, rfl, fun x dx nx ndx ne => ⟨x, dx, u1, rfl, upd_same, fun H' kp hx => ⟨rfl, ?_⟩⟩⟩⟩⟩⟩⟩
        exact kG' a _ _ x dx _ _ H' rfl ha (s1.trans (made_same nx ndx kp)) (sm0 s1 nx) hx (.rinse u1)
theorem scDeedOf : FnScope ["bench", "row"] ["bench", "row"] (defScope sDeedOf) := ⟨rfl, rfl, rfl, by decide +kernel, rfl, by decide +kernel, by decide +kernel⟩
theorem ok_deedof {f : Addr} {fd : FuncData} (F : Fun K "deed_of" "deed_of" sDeedOf f fd) (cD : Cal P w K mg base (CXg P w) 6 "deed_at" ["bench", "row", "place"] (spDeedAt K c5 CD CF CP CE CR)) : FnOk P w K mg base (CXg P w) 7 f fd ["bench", "row"] (spDeedOf K c5 CD CF CP CE CR) := by
  refine F.okF scDeedOf (fun vs H Q E h => ?_) (fun cdv A outer s H vs Q E hr h => ?_)
  · obtain ⟨_, _, _, _, rfl, _⟩ := h
    rfl
  · obtain ⟨b, nb, v, β, rfl, bn, rv, kG, kB⟩ := h
    refine ⟨_, pss_one (ps_ret (pe_cal cD hr rfl pass_f (pa_cons (pv 0) (pa_cons (pv 1) (pa_cons pe_int pa_nil))))), ?_⟩
    exact ⟨_, rfl, _, rfl, b, nb, v, β, 0, rfl, by decide, bn, rv, kG, kB⟩
end
end K36

namespace K36
open PySem PySem.Spec PyProof.Rows L2 GM TM
theorem pss_no {X : Cx} {ss : List Stmt} : PSs X ss (fun _ _ _ => False) := fun _ _ _ _ _ _ h => h.elim
theorem ixN_nat {n j : Nat} (h : j < n) : ixN n (j : Int) = some j := by
  unfold ixN
  rw [if_pos (by omega), if_pos (by omega), Int.toNat_natCast]
/-- clean phials -/
def CLn (H : Hp) (us : List V) : Prop := ∀ u ∈ us, ∃ z e1 e2, u = .ref z ∧ H z = some (.tup [.ref e1, e2]) ∧ H e1 = some (.tup [])
theorem CLn.keep {H H' : Hp} {us : List V} (s : Same H H') (h : CLn H us) : CLn H' us := fun u hu => by
  obtain ⟨z, e1, e2, a, b, c⟩ := h u hu
  exact ⟨z, e1, e2, a, s _ _ b, s _ _ c⟩
def PhV (H : Hp) (ph : Addr) (us : List V) : Prop := H ph = some (.lst us) ∧ CLn H us ∧ 1 ≤ us.length ∧ us.length ≤ 20
theorem PhV.keep {H H' : Hp} {ph : Addr} {us : List V} (s : Same H H') (h : PhV H ph us) : PhV H' ph us := ⟨s _ _ h.1, h.2.1.keep s, h.2.2⟩
def spWith : Sp := fun vs H Q _ => ∃ (ph : Addr) (i : Nat) (h n : V) (us : List V), vs = [.ref ph, .int (i : Nat), h, n] ∧ H ph = some (.lst us) ∧ i < us.length ∧ us.length ≤ 20 ∧ ∀ l z H', Same H H' → H l = none → H' z = some (.tup [h, n]) → H' l = some (.lst (us.set i (.ref z))) → Q (.ref l) H'
def spOntoR (C : Addr) : Sp := fun vs H Q _ => ∃ (p dx ph : Addr) (b pl : V) (us : List V), vs = [.ref p, b, .ref ph, pl] ∧ H p = some (.ins C dx (fs1 "phial" (.int 0))) ∧ PhV H ph us ∧ ∀ l us' H', Same H H' → H l = none → PhV H' l us' → Q (.ref l) H'
/-- rows at clean phials: no deed, or the first phial rinsed -/
def RowX (K : PySem.W.Frag) (H : Hp) (nb : Nat) (v : V) (β : Bool) : Prop := (β = false ∧ RowV K H nb v false) ∨ (β = true ∧ ∃ a, v = .ref a ∧ H a = some (.tup [.str "rinse", .int 0]))
theorem rinse0 {K : PySem.W.Frag} {H : Hp} {nb : Nat} {a : Addr} (h : H a = some (.tup [.str "rinse", .int 0])) (n1 : 1 ≤ nb) : RowV K H nb (.ref a) true := by
  refine .big (ks := ["phial"]) (βs := [true]) h (by decide +kernel) ⟨rfl, rfl, fun i k u β hk hu hβ => ?_⟩ (fun e => by cases e) (fun _ => .inl ⟨by decide +kernel, rfl⟩)
  match i, hk, hu, hβ with
  | 0, hk, hu, hβ =>
    cases hk
    cases hu
    cases hβ
    have := KindV.ph (K := K) (H := H) (nb := nb) (n := 0)
    rw [show (decide ((0 : Int) ≤ 0) && decide ((0 : Int) < ((nb : Nat) : Int))) = true by rw [decide_eq_true (Int.le_refl 0), decide_eq_true (by omega)]; rfl] at this
    exact this
  | i + 1, hk, _, _ => simp at hk
theorem RowX.v {K : PySem.W.Frag} {H : Hp} {nb : Nat} {v : V} {β : Bool} (h : RowX K H nb v β) (n1 : 1 ≤ nb) : RowV K H nb v β := by
  rcases h with ⟨rfl, h⟩ | ⟨rfl, a, rfl, h⟩
  · exact h
  · exact rinse0 h n1
def spDoneAt (K : PySem.W.Frag) (c : Addr) : Sp := fun vs H Q E => ∃ b nb ph us v β n, vs = [.ref b, .ref ph, v, .int (n : Nat)] ∧ n < 1000 ∧ BnV H b nb ∧ 1 ≤ nb ∧ PhV H ph us ∧ RowX K H nb v β ∧ (β = true → ∀ l us' H', Same H H' → H l = none → PhV H' l us' → Q (.ref l) H') ∧ (β = false → BadN c n H E)
def spDone (K : PySem.W.Frag) (c : Addr) : Sp := fun vs H Q E => ∃ b nb ph us v β, vs = [.ref b, .ref ph, v] ∧ BnV H b nb ∧ 1 ≤ nb ∧ PhV H ph us ∧ RowX K H nb v β ∧ (β = true → ∀ l us' H', Same H H' → H l = none → PhV H' l us' → Q (.ref l) H') ∧ (β = false → BadN c 0 H E)
/-- rinses of the first phial, then no deed -/
structure Rws (K : PySem.W.Frag) (H : Hp) (nb : Nat) (l : Addr) (m : Nat) (xs : List V) : Prop where
  hl : H l = some (.lst xs)
  ln : xs.length = m + 1
  m9 : m < 10
  at' : ∀ (i : Nat) v, xs[i]? = some v → RowX K H nb v (decide (i < m))
theorem Isi.keep {K : PySem.W.Frag} {H H' : Hp} (s : Same H H') {v : V} {T : String} {b : Bool} (h : Isi K H v T b) : Isi K H' v T b := by
  cases h
  case tup_tuple h => exact .tup_tuple (s.tup h)
  case tup_int h => exact .tup_int (s.tup h)
  case tup_str h => exact .tup_str (s.tup h)
  case tup_list h => exact .tup_list (s.tup h)
  case lst_tuple h => exact .lst_tuple (s.seq h)
  case lst_int h => exact .lst_int (s.seq h)
  case lst_str h => exact .lst_str (s.seq h)
  case lst_list h => exact .lst_list (s.seq h)
  all_goals constructor
theorem RowE.keep {K : PySem.W.Frag} {H H' : Hp} {v : V} (s : Same H H') (h : RowE K H v) : RowE K H' v := by
  cases h with
  | notT h => exact .notT (Isi.keep s h)
  | nil h => exact .nil (s _ _ h)
  | head h k => exact .head (s _ _ h) (Isi.keep s k)
  | word h k => exact .word (s _ _ h) k
  | len h k n => exact .len (s _ _ h) k n
theorem RowV.keep {K : PySem.W.Frag} {H H' : Hp} {nb : Nat} {v : V} {β : Bool} (s : Same H H') (h : RowV K H nb v β) : RowV K H' nb v β := by
  cases h with
  | early h => exact .early (h.keep s)
  | big a b c d e => exact .big (s _ _ a) b ⟨c.1, c.2.1, fun i k u β h1 h2 h3 => (c.2.2 i k u β h1 h2 h3).keep s⟩ d e
theorem RowX.keep {K : PySem.W.Frag} {H H' : Hp} {nb : Nat} {v : V} {β : Bool} (s : Same H H') (h : RowX K H nb v β) : RowX K H' nb v β := by
  rcases h with ⟨rfl, h⟩ | ⟨rfl, a, rfl, h⟩
  · exact .inl ⟨rfl, h.keep s⟩
  · exact .inr ⟨rfl, a, rfl, s _ _ h⟩
theorem Rws.keep {K : PySem.W.Frag} {H H' : Hp} {nb : Nat} {l : Addr} {m : Nat} {xs : List V} (s : Same H H') (h : Rws K H nb l m xs) : Rws K H' nb l m xs := ⟨s _ _ h.hl, h.ln, h.m9, fun i v hv => (h.at' i v hv).keep s⟩
def spWalk (K : PySem.W.Frag) (c : Addr) : Sp := fun vs H Q E => ∃ b nb ph us l m xs, vs = [.ref b, .ref ph, .ref l] ∧ BnV H b nb ∧ 1 ≤ nb ∧ PhV H ph us ∧ Rws K H nb l m xs ∧ BadN c m H E
def spFirstR (K : PySem.W.Frag) : Sp := fun vs H Q _ => ∃ b nb ph us l m xs, vs = [.ref b, .ref ph, .ref l] ∧ BnV H b nb ∧ 1 ≤ nb ∧ PhV H ph us ∧ Rws K H nb l m xs ∧ ∀ H', Same H H' → Q (.int (m : Nat)) H'
section
variable {P : Program} {w : World} {K : PySem.W.Frag} {mg : Str → Option Value} {base : Heap} {cP c0 c1 c2 c3 c4 c5 fI CD CF CP CE CR : Addr}
theorem scWith : FnScope ["phials", "phial", "holds", "names", "behind"] ["phials", "phial", "holds", "names"] (defScope sWithPh) := ⟨rfl, rfl, rfl, by decide +kernel, rfl, by decide +kernel, by decide +kernel⟩
theorem ok_with {f : Addr} {fd : FuncData} (F : Fun K "with_phial" "with_phial" sWithPh f fd) (T : Txt mg) : FnOk P w K mg base CX0 1 f fd ["phials", "phial", "holds", "names"] spWith := by
  refine F.ok scWith (fun vs H Q E h => ?_) (fun cdv A outer s H vs Q E hr h => ?_)
  · obtain ⟨_, _, _, _, _, rfl, _⟩ := h
    rfl
  · obtain ⟨ph, i, h, n, us, rfl, hp, il, u20, k⟩ := h
    refine ⟨_, (pss_cons (ps_set (i := 4) scWith.nd rfl (Or.inl rfl) (pe_callTy call_list_of rfl T.list' bt_list (pa_cons (pv 0) pa_nil)))
      (pss_cons (ps_asg (pe_tup (pa_cons (pv 2) (pa_cons (pv 3) pa_nil))) (pg_sub (pv 4) (pv 1) set_list))
      (pss_one (ps_ret (pv 4))))), ?_⟩
    refine ⟨_, rfl, ph, _, rfl, .inl (SqL.of hp), fun l nl => ?_⟩
    have sl := Same.upd (o := .lst us) nl
    refine ⟨_, rfl, _, rfl, (by show 2 ≤ sizeLine; decide), fun z nz => ?_⟩
    have sz := Same.upd (o := .tup [h, n]) nz
    have lz : l ≠ z := fun e => by rw [← e, upd_same] at nz; cases nz
    refine ⟨_, rfl, _, rfl, l, us, (i : Int), i, rfl, rfl, sz _ _ upd_same, ixN_nat il, ?_⟩
    refine ⟨_, rfl, k l z _ (fun b o e => ?_) nl ?_ upd_same⟩
    · rw [upd_ne (ne_of_none e nl)]
      exact (sl.trans sz) _ _ e
    · rw [upd_ne lz.symm]
      exact upd_same
theorem scORinse : FnScope ["self", "bench", "phials", "place"] ["self", "bench", "phials", "place"] (defScope sORinse) := ⟨rfl, rfl, rfl, by decide +kernel, rfl, by decide +kernel, by decide +kernel⟩
theorem ok_orinse {f : Addr} {fd : FuncData} (F : Fun K "onto_at" "Rinse.onto_at" sORinse f fd) (D : DCl K CR ["phial"]) (cW : Cal P w K mg base CX0 1 "with_phial" ["phials", "phial", "holds", "names"] spWith) : FnOk P w K mg base CX0 2 f fd ["self", "bench", "phials", "place"] (spOntoR CR) := by
  refine F.ok scORinse (fun vs H Q E h => ?_) (fun cdv A outer s H vs Q E hr h => ?_)
  · obtain ⟨_, _, _, _, _, _, rfl, _⟩ := h
    rfl
  · obtain ⟨p, dx, ph, b, pl, us, rfl, hp, ⟨hph, cl, u1, u20⟩, k⟩ := h
    refine ⟨_, (pss_cons (ps_if (pt_cmpR (op_neT0 hr.units) (pe_ix ix_tup (pe_ix ix_list (pv 2) (pe_fld (pv 0) rfl) (fun _ _ => rfl)) pe_int (fun _ _ => rfl)) (pe_tup pa_nil) (nomark _))
        pss_no
        pss_nil)
      (pss_one (ps_ret (pe_cal cW hr rfl pass0 (pa_cons (pv 2) (pa_cons (pe_fld (pv 0) rfl) (pa_cons (pe_tup pa_nil) (pa_cons (pe_tup pa_nil) pa_nil)))))))), ?_⟩
    obtain ⟨u, hu⟩ : ∃ u, us[0]? = some u := ⟨_, List.getElem?_eq_getElem (by omega)⟩
    obtain ⟨z, e1, e2, rfl, hz, he1⟩ := cl u (List.mem_of_getElem? hu)
    refine ⟨_, rfl, _, rfl, p, CR, dx, _, .int 0, rfl, hp, D.cl, D.na _ (by simp), fs1_1, ph, _, 0, .ref z, rfl, rfl, SqL.of hph, atI_nat (j := 0) hu, z, _, 0, .ref e1, rfl, rfl, SqT.of hz, rfl, (by show 0 ≤ sizeLine; decide), fun q nq => ?_⟩
    have sq := Same.upd (o := .tup []) nq
    have hq : upd H q (.tup []) q = some (.tup []) := upd_same
    generalize upd H q (.tup []) = H1 at sq hq ⊢
    refine ⟨e1, q, [], rfl, rfl, SqT.of (sq _ _ he1), SqT.of hq, _, rfl, iteF ?_⟩
    refine ⟨_, rfl, _, rfl, p, CR, dx, _, .int 0, rfl, sq _ _ hp, D.cl, D.na _ (by simp), fs1_1, (by show 0 ≤ sizeLine; decide), fun q1 nq1 => ⟨(by show 0 ≤ sizeLine; decide), fun q2 nq2 => ?_⟩⟩
    have s1 := Same.upd (o := .tup []) nq1
    have s2 := Same.upd (o := .tup []) nq2
    have h1 : upd (upd H1 q1 (.tup [])) q2 (.tup []) q1 = some (.tup []) := s2 _ _ upd_same
    have s03 := (sq.trans s1).trans s2
    generalize upd (upd H1 q1 (.tup [])) q2 (.tup []) = H3 at h1 s03 ⊢
    refine ⟨ph, 0, .ref q1, .ref q2, us, rfl, s03 _ _ hph, by omega, u20, fun l z' H4 s4 nl hz' hl => k l _ H4 (s03.trans s4) (sm0 s03 nl) ⟨hl, fun u hu => ?_, by rw [List.length_set]; exact u1, by rw [List.length_set]; exact u20⟩⟩
    rcases List.mem_or_eq_of_mem_set hu with h | h
    · exact (cl.keep (s03.trans s4)) u h
    · exact ⟨z', q1, _, h, hz', s4 _ _ h1⟩
theorem scDoneAt : FnScope ["bench", "phials", "row", "place"] ["bench", "phials", "row", "place"] (defScope sDoneAt) := ⟨rfl, rfl, rfl, by decide +kernel, rfl, by decide +kernel, by decide +kernel⟩
theorem ok_doneat {f : Addr} {fd : FuncData} (F : Fun K "done_at" "done_at" sDoneAt f fd) (D : DCl K CR ["phial"]) (cD : Cal P w K mg base (CXg P w) 6 "deed_at" ["bench", "row", "place"] (spDeedAt K c5 CD CF CP CE CR)) (mO : MCal P w K mg base CX0 6 CR "onto_at" ["self", "bench", "phials", "place"] (spOntoR CR)) : FnOk P w K mg base (CXg P w) 7 f fd ["bench", "phials", "row", "place"] (spDoneAt K c5) := by
  refine F.okF scDoneAt (fun vs H Q E h => ?_) (fun cdv A outer s H vs Q E hr h => ?_)
  · obtain ⟨_, _, _, _, _, _, _, rfl, _⟩ := h
    rfl
  · obtain ⟨b, nb, ph, us, v, β, n, rfl, hn, bn, n1, pv', rx, kG, kB⟩ := h
    refine ⟨_, pss_one (ps_ret (pe_mc D.cl mO hr pass0 (pe_cal cD hr rfl pass_f (pa_cons (pv 0) (pa_cons (pv 2) (pa_cons (pv 3) pa_nil)))) (pa_cons (pv 0) (pa_cons (pv 1) (pa_cons (pv 3) pa_nil))))), ?_⟩
    refine ⟨_, rfl, _, rfl, _, rfl, b, nb, v, β, n, rfl, hn, bn, rx.v n1, fun e a x us' p dx C fs H' ev ha s' np hp dO => ?_, kB⟩
    rcases rx with ⟨e', _⟩ | ⟨_, a', ev', ha'⟩
    · rw [e] at e'; cases e'
    · rw [ev] at ev'
      cases ev'
      rw [ha] at ha'
      cases ha'
      cases dO with
      | rinse u1 =>
        refine ⟨p, dx, _, rfl, hp, fs1_no (by decide +kernel), _, rfl, _, rfl, _, rfl, p, dx, ph, _, _, us, rfl, hp, pv'.keep s', fun l us2 H2 s2 nl p2 => ?_⟩
        exact kG e l us2 H2 (s'.trans s2) (sm0 s' nl) p2
theorem scDone : FnScope ["bench", "phials", "row"] ["bench", "phials", "row"] (defScope sDone) := ⟨rfl, rfl, rfl, by decide +kernel, rfl, by decide +kernel, by decide +kernel⟩
theorem ok_done {f : Addr} {fd : FuncData} (F : Fun K "done" "done" sDone f fd) (cD : Cal P w K mg base (CXg P w) 7 "done_at" ["bench", "phials", "row", "place"] (spDoneAt K c5)) : FnOk P w K mg base (CXg P w) 8 f fd ["bench", "phials", "row"] (spDone K c5) := by
  refine F.okF scDone (fun vs H Q E h => ?_) (fun cdv A outer s H vs Q E hr h => ?_)
  · obtain ⟨_, _, _, _, _, _, rfl, _⟩ := h
    rfl
  · obtain ⟨b, nb, ph, us, v, β, rfl, bn, n1, pv', rx, kG, kB⟩ := h
    refine ⟨_, pss_one (ps_ret (pe_cal cD hr rfl pass_f (pa_cons (pv 0) (pa_cons (pv 1) (pa_cons (pv 2) (pa_cons pe_int pa_nil)))))), ?_⟩
    exact ⟨_, rfl, _, rfl, _, rfl, b, nb, ph, us, v, β, 0, rfl, by decide, bn, n1, pv', rx, kG, kB⟩
theorem scWalked : FnScope ["bench", "phials", "rows", "behind", "place", "row"] ["bench", "phials", "rows"] (defScope sWalked) := ⟨rfl, rfl, rfl, by decide +kernel, rfl, by decide +kernel, by decide +kernel⟩
theorem ok_walked {f : Addr} {fd : FuncData} (F : Fun K "walked" "walked" sWalked f fd) (T : Txt mg) (cD : Cal P w K mg base (CXg P w) 7 "done_at" ["bench", "phials", "row", "place"] (spDoneAt K c5)) : FnOk P w K mg base (CXg P w) 8 f fd ["bench", "phials", "rows"] (spWalk K c5) := by
  refine F.okF scWalked (fun vs H Q E h => ?_) (fun cdv A outer s H vs Q E hr h => ?_)
  · obtain ⟨_, _, _, _, _, _, _, rfl, _⟩ := h
    rfl
  · obtain ⟨b, nb, ph, us, rl, m, xs, rfl, bn, n1, pv', rw', kB⟩ := h
    refine ⟨_, (pss_cons (ps_set (i := 3) scWalked.nd rfl (Or.inl rfl) (pe_callTy call_list_of rfl T.list' bt_list (pa_cons (pv 1) pa_nil)))
      (pss_cons (ps_for PassesOwn.leaving rfl (pi_enum rfl T.enum' (pa_cons (pv 2) pa_nil)) (pg_tup rfl (pgs_cons (pg_name (i := 4) scWalked.nd rfl (Or.inl rfl)) (pgs_cons (pg_name (i := 5) scWalked.nd rfl (Or.inl rfl)) pgs_nil)))
        (pss_one (ps_set (i := 3) scWalked.nd rfl (Or.inl rfl) (pe_cal cD hr rfl pass_f (pa_cons (pv 0) (pa_cons (pv 3) (pa_cons (pv 5) (pa_cons (pv 4) pa_nil))))))))
      (pss_one (ps_ret (pv 3))))), ?_⟩
    have m9 := rw'.m9
    refine ⟨_, rfl, ph, _, rfl, .inl (SqL.of pv'.1), fun l nl => ?_⟩
    have sl := Same.upd (o := .lst us) nl
    have hl : upd H l (.lst us) l = some (.lst us) := upd_same
    generalize upd H l (.lst us) = H1 at sl hl ⊢
    refine ⟨_, rfl, rl, rfl, ⟨_, SqL.of (rw'.keep sl).hl⟩, ?_⟩
    refine for_enum (ys := xs) (fun i σ H' => i ≤ m ∧ ∃ (l' : Addr) (us' : List V) (v4 v5 : Option V), σ = [some (.ref b), some (.ref ph), some (.ref rl), some (.ref l'), v4, v5] ∧ Same H H' ∧ PhV H' l' us') ⟨Nat.zero_le _, l, us, none, none, rfl, sl, hl, pv'.2.1.keep sl, pv'.2.2⟩ (fun i σ H' _ hh => by obtain ⟨_, _, _, _, _, _, sm, _⟩ := hh; exact SqL.of (rw'.keep sm).hl) ?_ ?_
    · intro i y T' σ H2 hy nT hh
      obtain ⟨im, l', us', v4, v5, rfl, s2, p2⟩ := hh
      have sT := Same.upd (o := .tup [.int (i : Nat), y]) nT
      have s3 := s2.trans sT
      refine ⟨T', _, rfl, SqT.of upd_same, rfl, _, _, rfl, _, _, rfl, rfl, ?_⟩
      refine ⟨_, rfl, _, rfl, _, rfl, _, rfl, b, nb, l', us', y, decide (i < m), i, rfl, by omega, bn.keep s3, n1, p2.keep sT, (rw'.at' i y hy).keep s3, fun e l2 us2 H4 s4 nl2 p4 => ?_, fun e => ?_⟩
      · have : i < m := of_decide_eq_true e
        exact ⟨this, l2, us2, _, _, rfl, s3.trans s4, p4⟩
      · have : ¬ i < m := of_decide_eq_false e
        have ei : i = m := by omega
        subst ei
        exact kB.mono s3
    · intro σ H2 hh
      have := rw'.ln
      omega
theorem scSpoilt : FnScope ["bench", "phials", "rows", "away", "there", "place", "row", "behind"] ["bench", "phials", "rows"] (defScope sSpoilt) := ⟨rfl, rfl, rfl, by decide +kernel, rfl, by decide +kernel, by decide +kernel⟩
theorem ok_spoilt {f : Addr} {fd : FuncData} (F : Fun K "spoilt" "spoilt" sSpoilt f fd) (T : Txt mg) (cD : Cal P w K mg base (CXg P w) 7 "done_at" ["bench", "phials", "row", "place"] (spDoneAt K c5)) : FnOk P w K mg base (CXg P w) 8 f fd ["bench", "phials", "rows"] (spWalk K c5) := by
  refine F.okF scSpoilt (fun vs H Q E h => ?_) (fun cdv A outer s H vs Q E hr h => ?_)
  · obtain ⟨_, _, _, _, _, _, _, rfl, _⟩ := h
    rfl
  · obtain ⟨b, nb, ph, us, rl, m, xs, rfl, bn, n1, pv', rw', kB⟩ := h
    refine ⟨_, (pss_cons (ps_set (i := 3) scSpoilt.nd rfl (Or.inl rfl) (pe_tup pa_nil))
      (pss_cons (ps_set (i := 4) scSpoilt.nd rfl (Or.inl rfl) (pe_callTy call_list_of rfl T.list' bt_list (pa_cons (pv 1) pa_nil)))
      (pss_cons (ps_for PassesOwn.leaving rfl (pi_enum rfl T.enum' (pa_cons (pv 2) pa_nil)) (pg_tup rfl (pgs_cons (pg_name (i := 5) scSpoilt.nd rfl (Or.inl rfl)) (pgs_cons (pg_name (i := 6) scSpoilt.nd rfl (Or.inl rfl)) pgs_nil)))
        (pss_cons (ps_set (i := 7) scSpoilt.nd rfl (Or.inl rfl) (pe_cal cD hr rfl pass_f (pa_cons (pv 0) (pa_cons (pv 4) (pa_cons (pv 6) (pa_cons (pv 5) pa_nil))))))
        (pss_cons (ps_if (pt_cmpR op_eq (pit 6 0) pe_str (nomark _))
          pss_no
          pss_nil)
        (pss_one (ps_set (i := 4) scSpoilt.nd rfl (Or.inl rfl) (pv 7))))))
      (pss_one (ps_ret (pv 3)))))), ?_⟩
    have m9 := rw'.m9
    refine ⟨(by show 0 ≤ sizeLine; decide), fun aw naw => ?_⟩
    have sa := Same.upd (o := .tup []) naw
    generalize upd H aw (.tup []) = H0 at sa ⊢
    refine ⟨_, rfl, ph, _, rfl, .inl (SqL.of (pv'.keep sa).1), fun l nl => ?_⟩
    have sl := sa.trans (Same.upd (o := .lst us) nl)
    have hl : upd H0 l (.lst us) l = some (.lst us) := upd_same
    generalize upd H0 l (.lst us) = H1 at sl hl ⊢
    refine ⟨_, rfl, rl, rfl, ⟨_, SqL.of (rw'.keep sl).hl⟩, ?_⟩
    refine for_enum (ys := xs) (fun i σ H' => i ≤ m ∧ ∃ (l' : Addr) (us' : List V) (v5 v6 v7 : Option V), σ = [some (.ref b), some (.ref ph), some (.ref rl), some (.ref aw), some (.ref l'), v5, v6, v7] ∧ Same H H' ∧ PhV H' l' us') ⟨Nat.zero_le _, l, us, none, none, none, rfl, sl, hl, pv'.2.1.keep sl, pv'.2.2⟩ (fun i σ H' _ hh => by obtain ⟨_, _, _, _, _, _, _, sm, _⟩ := hh; exact SqL.of (rw'.keep sm).hl) ?_ ?_
    · intro i y T' σ H2 hy nT hh
      obtain ⟨im, l', us', v5, v6, v7, rfl, s2, p2⟩ := hh
      have sT := Same.upd (o := .tup [.int (i : Nat), y]) nT
      have s3 := s2.trans sT
      have rx := (rw'.at' i y hy).keep s3
      refine ⟨T', _, rfl, SqT.of upd_same, rfl, _, _, rfl, _, _, rfl, rfl, ?_⟩
      refine ⟨_, rfl, _, rfl, _, rfl, _, rfl, b, nb, l', us', y, decide (i < m), i, rfl, by omega, bn.keep s3, n1, p2.keep sT, rx, fun e l2 us2 H4 s4 nl2 p4 => ?_, fun e => ?_⟩
      · have : i < m := of_decide_eq_true e
        rcases rx with ⟨e', _⟩ | ⟨_, a, rfl, ha⟩
        · rw [e] at e'; cases e'
        · exact ⟨a, _, _, rfl, SqT.of (s4 _ _ ha), rfl, rfl, _, rfl, iteF ⟨_, rfl, this, l2, us2, _, _, _, rfl, s3.trans s4, p4⟩⟩
      · have : ¬ i < m := of_decide_eq_false e
        have ei : i = m := by omega
        subst ei
        exact kB.mono s3
    · intro σ H2 hh
      have := rw'.ln
      omega
theorem scFirstR : FnScope ["bench", "phials", "rows", "behind", "place", "row"] ["bench", "phials", "rows"] (defScope sFirstR) := ⟨rfl, rfl, rfl, by decide +kernel, rfl, by decide +kernel, by decide +kernel⟩
theorem ok_firstr {f : Addr} {fd : FuncData} (F : Fun K "first_refused" "first_refused" sFirstR f fd) (T : Txt mg) (R : ErD K mg cP c0 c1 c2 c3 c4 c5 fI) (cD : Cal P w K mg base (CXg P w) 8 "done" ["bench", "phials", "row"] (spDone K c5)) : FnOk P w K mg base CX0 9 f fd ["bench", "phials", "rows"] (spFirstR K) := by
  refine F.ok scFirstR (fun vs H Q E h => ?_) (fun cdv A outer s H vs Q E hr h => ?_)
  · obtain ⟨_, _, _, _, _, _, _, rfl, _⟩ := h
    rfl
  · obtain ⟨b, nb, ph, us, rl, m, xs, rfl, bn, n1, pv', rw', k⟩ := h
    refine ⟨_, (pss_cons (ps_set (i := 3) scFirstR.nd rfl (Or.inl rfl) (pe_callTy call_list_of rfl T.list' bt_list (pa_cons (pv 1) pa_nil)))
      (pss_cons (ps_for PassesOwn.never rfl (pi_enum rfl T.enum' (pa_cons (pv 2) pa_nil)) (pg_tup rfl (pgs_cons (pg_name (i := 4) scFirstR.nd rfl (Or.inl rfl)) (pgs_cons (pg_name (i := 5) scFirstR.nd rfl (Or.inl rfl)) pgs_nil)))
        (pss_one (ps_tryN ⟨rfl, rfl, rfl⟩ rfl R.mP R.ct (fun pins E' σ Ec hp => pss_one (ps_set (i := 3) scFirstR.nd rfl (Or.inl rfl) (pe_calS cD hr rfl hp (pa_cons (pv 0) (pa_cons (pv 3) (pa_cons (pv 5) pa_nil)))))) (fun ea => pss_one (ps_ret (pv 4))))))
      (pss_one (ps_ret pe_non)))), ?_⟩
    have m9 := rw'.m9
    refine ⟨_, rfl, ph, _, rfl, .inl (SqL.of pv'.1), fun l nl => ?_⟩
    have sl := Same.upd (o := .lst us) nl
    have hl : upd H l (.lst us) l = some (.lst us) := upd_same
    generalize upd H l (.lst us) = H1 at sl hl ⊢
    refine ⟨_, rfl, rl, rfl, ⟨_, SqL.of (rw'.keep sl).hl⟩, ?_⟩
    refine for_enum (ys := xs) (fun i σ H' => i ≤ m ∧ ∃ (l' : Addr) (us' : List V) (v4 v5 : Option V), σ = [some (.ref b), some (.ref ph), some (.ref rl), some (.ref l'), v4, v5] ∧ Same H H' ∧ PhV H' l' us') ⟨Nat.zero_le _, l, us, none, none, rfl, sl, hl, pv'.2.1.keep sl, pv'.2.2⟩ (fun i σ H' _ hh => by obtain ⟨_, _, _, _, _, _, sm, _⟩ := hh; exact SqL.of (rw'.keep sm).hl) ?_ ?_
    · intro i y T' σ H2 hy nT hh
      obtain ⟨im, l', us', v4, v5, rfl, s2, p2⟩ := hh
      have sT := Same.upd (o := .tup [.int (i : Nat), y]) nT
      have s3 := s2.trans sT
      refine ⟨T', _, rfl, SqT.of upd_same, rfl, _, _, rfl, _, _, rfl, rfl, ?_⟩
      refine ⟨rfl, _, rfl, _, rfl, _, rfl, b, nb, l', us', y, decide (i < m), rfl, bn.keep s3, n1, p2.keep sT, (rw'.at' i y hy).keep s3, fun e l2 us2 H4 s4 nl2 p4 => ?_, fun e => ?_⟩
      · have : i < m := of_decide_eq_true e
        exact ⟨this, l2, us2, _, _, rfl, s3.trans s4, p4⟩
      · have : ¬ i < m := of_decide_eq_false e
        have ei : i = m := by omega
        subst ei
        intro dx H4 s4 hdx
        exact ⟨c5, rfl, R.ef.i.k, R.s, _, rfl, k H4 (s3.trans s4)⟩
    · intro σ H2 hh
      have := rw'.ln
      omega
end
end K36

namespace TR
open PySem PySem.Spec PyProof.Rows L2 GM
theorem seq_nx {t u : TS} {D : Ends} {σ : L2.St} {H : Hp} (S : L2.St → Hp → Prop) (h : ∀ σ' H', S σ' H' → u D σ' H') (g : ∀ N : L2.St → Hp → Prop, (∀ σ' H', S σ' H' → N σ' H') → t { D with nx := N } σ H) : tSeq t u D σ H := g (u D) h
/-! ### the two largest of a list, noughts standing by -/
def Top2 (l : List Int) (f s : Int) : Prop := ∃ r, (l ++ [0, 0]).Perm (f :: s :: r) ∧ s ≤ f ∧ ∀ x ∈ r, x ≤ s
/-- the need of a recipe by those of its parts -/
def Nd (ds : List Int) (d : Int) : Prop := ∃ f s, Top2 ds f s ∧ d = max f (s + 1)
/-! ### counts of parts, a recipe ahead of its parts -/
def av : List Int → Int
  | [] => 0
  | c :: r => av r - c + 1
def Okc : List Int → Prop
  | [] => True
  | c :: r => Okc r ∧ 0 ≤ c ∧ c < 64 ∧ c ≤ av r
/-- p: the counts so far; m trees begun, l parts lacking -/
def Gd (p : List Int) (m l : Int) : Prop := ∀ r, Okc r → l ≤ av r → Okc (p ++ r) ∧ av r - l + m ≤ av (p ++ r)
/-! ### trees in the heap -/
def Am (H : Hp) (m : Addr) (n : Nat) : Prop := ∃ t b : Int, H m = some (.tup [.int t, .int b]) ∧ 0 ≤ t ∧ 1 ≤ b ∧ Bt (64 * n - 1) t ∧ Bt (64 * n - 1) b
/-- a part with its size and its need -/
abbrev Pt := V × Nat × Int
def szs (cs : List Pt) : Nat := (cs.map (·.2.1)).sum
def Tr (H : Hp) : Nat → V → Nat → Int → Prop
  | 0, _, _, _ => False
  | n + 1, v, s, d =>
    (∃ (p m : Addr) (x : Str), v = .ref p ∧ H p = some (.tup [.str "ware", .str x, .ref m]) ∧ Am H m 1 ∧ s = 1 ∧ d = 0) ∨
    (∃ (p m q : Addr) (x : Str) (cs : List Pt), v = .ref p ∧ H p = some (.tup [.str "recipe", .str x, .ref m, .ref q]) ∧ H q = some (.tup (cs.map (·.1))) ∧ 1 ≤ cs.length ∧ cs.length < 64 ∧
      (∀ c ∈ cs, Tr H n c.1 c.2.1 c.2.2) ∧ s = 1 + szs cs ∧ Nd (cs.map (·.2.2)) d ∧ Am H m s)
/-! ### things taken off a pile within a comprehension -/
def Bx (a : Addr) (H H' : Hp) : Prop := ∀ b o, b ≠ a → H b = some o → H' b = some o
/-- how many counts are not nought -/
def nzc (cs : List Int) : Nat := (cs.filter fun c => c != 0).length
/-- a pile of trees, behind the last j counts -/
structure Pile (H : Hp) (cs : List Int) (j : Nat) (pl : List Pt) : Prop where
  tr : ∀ c ∈ pl, Tr H (nzc (cs.drop (cs.length - j)) + 1) c.1 c.2.1 c.2.2
  sz : szs pl = j
  ln : (pl.length : Int) = av (cs.drop (cs.length - j))
  hd : 1 ≤ j → ∃ pl' q, pl = pl' ++ [q] ∧ ∀ c, cs[cs.length - j]? = some c → 1 ≤ c → 1 ≤ q.2.2
/-! ### paths -/
def AtP (H : Hp) : V → List Nat → V → Prop
  | v, [], u => v = u
  | v, k :: r, u => ∃ (p m q : Addr) (x : Str) (vs : List V) (c : V), v = .ref p ∧ H p = some (.tup [.str "recipe", .str x, .ref m, .ref q]) ∧ H q = some (.tup vs) ∧ vs[k]? = some c ∧ AtP H c r u
abbrev pth (ks : List Nat) : List V := ks.map fun (k : Nat) => V.int (k : Int)
/-- an entry of a list of paths: the path and the part that lies there; s the part's size -/
def Ent (H : Hp) (root : V) (N : Nat) (e : Addr) (s : Nat) : Prop := ∃ (pa : Addr) (ks : List Nat) (v : V) (n : Nat) (d : Int), H e = some (.tup [.ref pa, v]) ∧ H pa = some (.tup (pth ks)) ∧ AtP H root ks v ∧ Tr H n v s d ∧ ks.length + n ≤ N
end TR

namespace K36
open PySem PySem.Spec PyProof.Rows L2 GM TM TR
/-- a good row -/
inductive GR (H : Hp) (nb : Nat) : Addr → Prop where
  | am {z : Addr} {wd : Str} {p x q t b} : wd = "draw" ∨ wd = "fill" → H z = some (.tup [.str wd, .int p, .str x, .ref q]) → 0 ≤ p → p < (nb : Int) → Wr x → H q = some (.tup [.int t, .int b]) → Rm t b → GR H nb z
  | pour {z p o q t b} : H z = some (.tup [.str "pour", .int p, .int o, .ref q]) → 0 ≤ p → p < (nb : Int) → 0 ≤ o → o < (nb : Int) → p ≠ o → H q = some (.tup [.int t, .int b]) → Rm t b → t ≤ b → GR H nb z
  | one {z : Addr} {wd : Str} {p} : wd = "empty" ∨ wd = "rinse" → H z = some (.tup [.str wd, .int p]) → 0 ≤ p → p < (nb : Int) → GR H nb z
def WsV (H : Hp) (wl : Addr) (ws : List Str) : Prop := H wl = some (.lst (ws.map V.str)) ∧ ws.length = 6 ∧ ∀ x ∈ ws, Wr x
theorem other_ne {p d nb : Int} (p0 : 0 ≤ p) (pn : p < nb) (d0 : 0 ≤ d) (dn : d < nb - 1) : 0 ≤ (p + 1 + d) % nb ∧ (p + 1 + d) % nb < nb ∧ p ≠ (p + 1 + d) % nb := by
  have e := emod_in (p + 1 + d) (m := nb) (by omega)
  refine ⟨e.1, e.2, fun z => ?_⟩
  by_cases h : p + 1 + d < nb
  · rw [Int.emod_eq_of_lt (by omega) h] at z
    omega
  · have : (p + 1 + d) % nb = (p + 1 + d - nb) % nb := by rw [Int.sub_emod, Int.emod_self, Int.sub_zero, Int.emod_emod]
    rw [this, Int.emod_eq_of_lt (by omega) (by omega)] at z
    omega
theorem part_ok {d b : Int} (d0 : 0 ≤ d) (db : d < b) (b1 : 1 ≤ b) (sb : Bt 100 b) : Rm ((1 + d) / G (1 + d) b) (b / G (1 + d) b) ∧ (1 + d) / G (1 + d) b ≤ b / G (1 + d) b := by
  have g := G_pos (a := 1 + d) (b := b) (by omega)
  exact ⟨low_rm (by omega) b1 (sb.le (by omega) (by omega)) sb, Int.ediv_le_ediv g (by omega)⟩
theorem ws_ne {a wl : Addr} {H : Hp} {ws : List Str} (h : WsV H wl ws) (l : Lf H a) : wl ≠ a := fun z => by
  obtain ⟨n, e, _⟩ := l
  obtain ⟨h1, h2, _⟩ := h
  rw [z, e] at h1
  have := congrArg List.length (HO.lst.inj (Option.some.inj h1))
  rw [List.length_map, h2] at this
  simp at this
def spFreeRow : Sp := fun vs H Q _ => ∃ b wl a nb ws, vs = [.ref b, .ref wl, .ref a] ∧ BnV H b nb ∧ 1 ≤ nb ∧ nb ≤ 16 ∧ WsV H wl ws ∧ Lf H a ∧ ∀ z H', SmB a H H' → Lf H' a → GR H' nb z → Q (.ref z) H'
def spRow (K : PySem.W.Frag) : Sp := fun vs H Q _ => ∃ b wl sc nb ws, ∃ (ns : List Int) (k : Nat), vs = [.ref b, .ref wl, .ref sc, .int (k : Nat)] ∧ BnV H b nb ∧ 1 ≤ nb ∧ nb ≤ 16 ∧ WsV H wl ws ∧ SqL K H sc (ns.map V.int) ∧ k < ns.length ∧ k ≤ 900 ∧ ∀ z H', Same H H' → GR H' nb z → Q (.ref z) H'
theorem pick5 {d : Int} (d0 : 0 ≤ d) (d5 : d < 5) : ∃ wd : Str, atI [V.str "draw", .str "fill", .str "pour", .str "empty", .str "rinse"] d = some (.str wd) ∧ (wd = "draw" ∨ wd = "fill" ∨ wd = "pour" ∨ wd = "empty" ∨ wd = "rinse") := by
  have : d = 0 ∨ d = 1 ∨ d = 2 ∨ d = 3 ∨ d = 4 := by omega
  rcases this with rfl | rfl | rfl | rfl | rfl
  · exact ⟨"draw", rfl, .inl rfl⟩
  · exact ⟨"fill", rfl, .inr (.inl rfl)⟩
  · exact ⟨"pour", rfl, .inr (.inr (.inl rfl))⟩
  · exact ⟨"empty", rfl, .inr (.inr (.inr (.inl rfl)))⟩
  · exact ⟨"rinse", rfl, .inr (.inr (.inr (.inr rfl)))⟩
theorem pick9 {d : Int} (d0 : 0 ≤ d) (d9 : d < 9) : ∃ wd : Str, atI [V.str "draw", .str "draw", .str "draw", .str "fill", .str "pour", .str "pour", .str "pour", .str "empty", .str "rinse"] d = some (.str wd) ∧ (wd = "draw" ∨ wd = "fill" ∨ wd = "pour" ∨ wd = "empty" ∨ wd = "rinse") := by
  have : d = 0 ∨ d = 1 ∨ d = 2 ∨ d = 3 ∨ d = 4 ∨ d = 5 ∨ d = 6 ∨ d = 7 ∨ d = 8 := by omega
  rcases this with rfl | rfl | rfl | rfl | rfl | rfl | rfl | rfl | rfl
  · exact ⟨"draw", rfl, .inl rfl⟩
  · exact ⟨"draw", rfl, .inl rfl⟩
  · exact ⟨"draw", rfl, .inl rfl⟩
  · exact ⟨"fill", rfl, .inr (.inl rfl)⟩
  · exact ⟨"pour", rfl, .inr (.inr (.inl rfl))⟩
  · exact ⟨"pour", rfl, .inr (.inr (.inl rfl))⟩
  · exact ⟨"pour", rfl, .inr (.inr (.inl rfl))⟩
  · exact ⟨"empty", rfl, .inr (.inr (.inr (.inl rfl)))⟩
  · exact ⟨"rinse", rfl, .inr (.inr (.inr (.inr rfl)))⟩
section
variable {P : Program} {w : World} {K : PySem.W.Frag} {mg : Str → Option Value} {base : Heap}
abbrev Nfr : List Str := ["_law_bench_here", "_law_wares_here", "_law_left", "_law_many", "_law_kind_here", "_law_phial", "_law_other", "_law_bottom", "_law_ware", "_law_top"]
theorem scFreeRow : FnScope Nfr ["_law_bench_here", "_law_wares_here", "_law_left"] (defScope sFreeRow) := ⟨rfl, rfl, rfl, by decide +kernel, rfl, by decide +kernel, by decide +kernel⟩
theorem ok_freerow {f : Addr} {fd : FuncData} (F : Fun K "_law_free_row" "_law_free_row" sFreeRow f fd) (T : Txt mg) (cD : Cal P w K mg base CX0 1 "_law_digit" ["_law_left", "_law_many"] spDigit) (cL : Cal P w K mg base CX0 1 "_law_lowest" ["_law_top", "_law_bottom"] spLowest) : FnOk P w K mg base CX0 2 f fd ["_law_bench_here", "_law_wares_here", "_law_left"] spFreeRow := by
  refine F.ok scFreeRow (fun vs H Q E h => ?_) (fun cdv A outer s H vs Q E hr h => ?_)
  · obtain ⟨_, _, _, _, _, rfl, _⟩ := h
    rfl
  · obtain ⟨b, wl, a, nb, ws, rfl, bn, n1, n16, wv, lf, k⟩ := h
    refine ⟨_, (pss_cons (ps_set (i := 3) scFreeRow.nd rfl (Or.inl rfl) (pe_callB call_len_seq rfl T.len PySem.boot_len (pa_cons (pit 0 0) pa_nil)))
      (pss_cons (ps_set (i := 4) scFreeRow.nd rfl (Or.inl rfl) (pe_ix ix_list (pe_lst (pa_c pe_str (pa_c pe_str (pa_c pe_str (pa_c pe_str (pa_c pe_str pa_nil)))))) (pe_cal cD hr rfl pass0 (pa_cons (pv 2) (pa_cons pe_int pa_nil))) (fun _ _ => rfl)))
      (pss_cons (ps_set (i := 5) scFreeRow.nd rfl (Or.inl rfl) (pe_cal cD hr rfl pass0 (pa_cons (pv 2) (pa_cons (pv 3) pa_nil))))
      (pss_cons (ps_if (PW.pt (pw_and (pt_cmpR op_eq (pv 4) pe_str (nomark _)) (pw_and1 (pt_cmpR op_eq (pv 3) pe_int (nomark _)))))
        (pss_one (ps_set (i := 4) scFreeRow.nd rfl (Or.inl rfl) pe_str))
        pss_nil)
      (pss_cons (ps_if (PW.pt (pw_or (pt_cmpR op_eq (pv 4) pe_str (nomark _)) (pw_or1 (pt_cmpR op_eq (pv 4) pe_str (nomark _)))))
        (pss_one (ps_ret (pe_tup (pa_cons (pv 4) (pa_cons (pv 5) pa_nil)))))
        pss_nil)
      (pss_cons (ps_if (pt_cmpR op_eq (pv 4) pe_str (nomark _))
        (pss_cons (ps_set (i := 6) scFreeRow.nd rfl (Or.inl rfl) (pe_op op_mod (pe_op op_add (pe_op op_add (pv 5) pe_int) (pe_cal cD hr rfl pass0 (pa_cons (pv 2) (pa_cons (pe_op op_sub (pv 3) pe_int) pa_nil)))) (pv 3)))
        (pss_cons (ps_set (i := 7) scFreeRow.nd rfl (Or.inl rfl) (pe_op op_add pe_int (pe_cal cD hr rfl pass0 (pa_cons (pv 2) (pa_cons pe_int pa_nil)))))
        (pss_one (ps_ret (pe_tup (pa_cons (pv 4) (pa_cons (pv 5) (pa_cons (pv 6) (pa_cons (pe_cal cL hr rfl pass0 (pa_cons (pe_op op_add pe_int (pe_cal cD hr rfl pass0 (pa_cons (pv 2) (pa_cons (pv 7) pa_nil)))) (pa_cons (pv 7) pa_nil))) pa_nil)))))))))
        pss_nil)
      (pss_cons (ps_set (i := 8) scFreeRow.nd rfl (Or.inl rfl) (pe_ix ix_list (pv 1) (pe_cal cD hr rfl pass0 (pa_cons (pv 2) (pa_cons pe_int pa_nil))) (fun _ _ => rfl)))
      (pss_cons (ps_set (i := 9) scFreeRow.nd rfl (Or.inl rfl) (pe_op op_add pe_int (pe_cal cD hr rfl pass0 (pa_cons (pv 2) (pa_cons pe_int pa_nil)))))
      (pss_one (ps_ret (pe_tup (pa_cons (pv 4) (pa_cons (pv 5) (pa_cons (pv 8) (pa_cons (pe_cal cL hr rfl pass0 (pa_cons (pv 9) (pa_cons (pe_op op_add pe_int (pe_cal cD hr rfl pass0 (pa_cons (pv 2) (pa_cons pe_int pa_nil)))) pa_nil))) pa_nil))))))))))))))), ?_⟩
    obtain ⟨r, q0, rs, hb, hrr, rl⟩ := id bn
    have wne := ws_ne wv lf
    refine ⟨b, _, _, rfl, SqT.of hb, rfl, r, _, rfl, .inr (SqT.of hrr), ?_⟩
    refine ⟨(by show 5 ≤ sizeLine; decide), fun z5 nz5 => ?_⟩
    have s5 := Same.upd (o := .lst [V.str "draw", .str "fill", .str "pour", .str "empty", .str "rinse"]) nz5
    have h5 : upd H z5 (.lst [V.str "draw", .str "fill", .str "pour", .str "empty", .str "rinse"]) z5 = some (.lst [V.str "draw", .str "fill", .str "pour", .str "empty", .str "rinse"]) := upd_same
    have z5a : z5 ≠ a := lf.there nz5
    generalize upd H z5 (.lst [V.str "draw", .str "fill", .str "pour", .str "empty", .str "rinse"]) = H1 at s5 h5 ⊢
    have lf1 := lf.keep s5
    refine ⟨_, rfl, a, 5, rfl, lf1, by decide, b9, fun d0 H2 d00 d05 sb2 lf2 => ?_⟩
    obtain ⟨wd, hat, hwd⟩ := pick5 d00 d05
    refine ⟨z5, _, d0, .str wd, rfl, rfl, SqL.of (sb2 _ _ z5a h5), hat, ?_⟩
    have sb02 : SmB a H H2 := (SmB.of s5).trans sb2
    have bnb : Bt 9000 ((rs.length : Nat) : Int) := b9 (by omega) (by omega)
    refine ⟨_, rfl, _, rfl, a, _, rfl, lf2, by omega, bnb, fun p H3 p0 pl sb3 lf3 => ?_⟩
    have sb03 := sb02.trans sb3
    have pn : p < (nb : Int) := by rw [← rl]; exact pl
    dsimp only [gName]
    refine seq_nx (fun σ' H' => ∃ wd' : Str, σ' = [some (.ref b), some (.ref wl), some (.ref a), some (.int ((rs.length : Nat) : Int)), some (.str wd'), some (.int p), none, none, none, none] ∧ H' = H3 ∧ ((wd' = "empty" ∨ wd' = "rinse") ∨ (wd' = "pour" ∧ 1 < nb) ∨ (wd' = "draw" ∨ wd' = "fill"))) ?_ (fun N hN => ?_)
    · intro σ' H' hh
      obtain ⟨wd', rfl, rfl, hw⟩ := hh
      rcases hw with hw | ⟨rfl, n2⟩ | hw
      · have fin : ∀ z, H' z = none → Q (.ref z) (upd H' z (.tup [.str wd', .int p])) := fun z nz => k z _ (sb03.own (sb03.none nz (lf3.there nz))) (lf3.keep (Same.upd nz)) (.one hw upd_same p0 pn)
        rcases hw with rfl | rfl
        · exact ⟨_, rfl, rfl, _, rfl, iteT ⟨_, rfl, _, rfl, (by show 2 ≤ sizeLine; decide), fin⟩⟩
        · exact ⟨_, rfl, rfl, _, rfl, iteF ⟨_, rfl, rfl, _, rfl, iteT ⟨_, rfl, _, rfl, (by show 2 ≤ sizeLine; decide), fin⟩⟩⟩
      · refine ⟨_, rfl, rfl, _, rfl, iteF ⟨_, rfl, rfl, _, rfl, iteF ⟨_, rfl, rfl, _, rfl, iteT ?_⟩⟩⟩
        refine ⟨_, rfl, _, _, rfl, rfl, _, rfl, _, rfl, _, _, rfl, rfl, a, _, rfl, lf3, by omega, b9 (by omega) (by omega), fun d H4 d00 dl sb4 lf4 => ?_⟩
        have sb04 := sb03.trans sb4
        obtain ⟨o0, ol, po⟩ := other_ne p0 pn d00 (by rw [← rl]; exact dl)
        refine ⟨_, _, rfl, rfl, _, rfl, _, _, rfl, rfl, by omega, ?_⟩
        refine ⟨_, rfl, a, 100, rfl, lf4, by decide, b9, fun e H5 e0 el sb5 lf5 => ⟨_, _, rfl, rfl, ?_⟩⟩
        have sb05 := sb04.trans sb5
        have sbt : Bt 100 (1 + e) := bt_lt 100 (c := 101) (by omega) (by omega)
        refine ⟨_, rfl, _, rfl, _, rfl, _, rfl, _, rfl, a, _, rfl, lf5, by omega, sbt.mono (by decide), fun e2 H6 e20 e2l sb6 lf6 => ⟨_, _, rfl, rfl, _, rfl, 1 + e2, 1 + e, rfl, by omega, by omega, sbt.mono (by decide), fun q H7 s7 nq hq => ⟨(by show 4 ≤ sizeLine; decide), fun z nz => ?_⟩⟩⟩
        have sb06 := sb05.trans sb6
        have sb07 := sb06.trans (SmB.of s7)
        have lf7 := lf6.keep s7
        obtain ⟨rm, le⟩ := part_ok e20 e2l (by omega) sbt
        rw [rl]
        refine k z _ (sb07.own (sb07.none nz (lf7.there nz))) (lf7.keep (Same.upd nz)) (.pour upd_same p0 pn o0 ol po (Same.upd nz _ _ hq) rm le)
      · have fin : ∀ {wd' : Str}, (wd' = "draw" ∨ wd' = "fill") → ∀ (x : Str) q t b' H7 z, Wr x → SmB a H H7 → Lf H7 a → H7 q = some (.tup [.int t, .int b']) → Rm t b' → H7 z = none → Q (.ref z) (upd H7 z (.tup [.str wd', .int p, .str x, .ref q])) := fun {wd'} hw x q t b' H7 z wx sb7 lf7 hq rm nz => k z _ (sb7.own (sb7.none nz (lf7.there nz))) (lf7.keep (Same.upd nz)) (.am hw upd_same p0 pn wx (Same.upd nz _ _ hq) rm)
        have fin' := fin hw
        rcases hw with rfl | rfl <;>
        · refine ⟨_, rfl, rfl, _, rfl, iteF ⟨_, rfl, rfl, _, rfl, iteF ⟨_, rfl, rfl, _, rfl, iteF ?_⟩⟩⟩
          refine ⟨_, rfl, _, rfl, a, 6, rfl, lf3, by decide, b9, fun d H4 d00 dl sb4 lf4 => ?_⟩
          have sb04 := sb03.trans sb4
          obtain ⟨j, rfl⟩ := Int.eq_ofNat_of_zero_le d00
          obtain ⟨x, hx⟩ : ∃ x, ws[j]? = some x := ⟨_, List.getElem?_eq_getElem (by have := wv.2.1; omega)⟩
          refine ⟨wl, _, (j : Int), .str x, rfl, rfl, SqL.of (sb04 _ _ wne wv.1), atI_nat (by rw [List.getElem?_map, hx]; rfl), ?_⟩
          refine ⟨_, rfl, a, 1000, rfl, lf4, by decide, b9, fun e H5 e0 el sb5 lf5 => ⟨_, _, rfl, rfl, ?_⟩⟩
          refine ⟨_, rfl, _, rfl, _, rfl, _, rfl, _, rfl, a, 100, rfl, lf5, by decide, b9, fun e2 H6 e20 e2l sb6 lf6 => ⟨_, _, rfl, rfl, 1 + e, 1 + e2, rfl, by omega, by omega, (bt_lt 100 (c := 101) (by omega) (by omega) : Bt 100 (1 + e2)).mono (by decide), fun q H7 s7 nq hq => ⟨(by show 4 ≤ sizeLine; decide), fun z nz => ?_⟩⟩⟩
          exact fin' x q _ _ H7 z (wv.2.2 x (List.mem_of_getElem? hx)) (((sb04.trans sb5).trans sb6).trans (SmB.of s7)) (lf6.keep s7) hq (low_rm (by omega) (by omega) (bt_lt 100 (c := 1001) (by omega) (by omega)) (bt_lt 100 (c := 101) (by omega) (by omega))) nz
    · rcases hwd with rfl | rfl | rfl | rfl | rfl
      · exact ⟨_, rfl, rfl, _, rfl, iteF (iteF (hN _ _ ⟨_, rfl, rfl, .inr (.inr (.inl rfl))⟩))⟩
      · exact ⟨_, rfl, rfl, _, rfl, iteF (iteF (hN _ _ ⟨_, rfl, rfl, .inr (.inr (.inr rfl))⟩))⟩
      · refine ⟨_, rfl, rfl, _, rfl, iteT ⟨_, rfl, rfl, _, rfl, ite2 (fun hc => hN _ _ ⟨_, rfl, rfl, .inl (.inl rfl)⟩) (fun hc => hN _ _ ⟨_, rfl, rfl, .inr (.inl ⟨rfl, ?_⟩)⟩)⟩⟩
        have : ¬ ((rs.length : Nat) : Int) = 1 := fun z => hc (decide_eq_true (by rw [z]))
        omega
      · exact ⟨_, rfl, rfl, _, rfl, iteF (iteF (hN _ _ ⟨_, rfl, rfl, .inl (.inl rfl)⟩))⟩
      · exact ⟨_, rfl, rfl, _, rfl, iteF (iteF (hN _ _ ⟨_, rfl, rfl, .inl (.inr rfl)⟩))⟩
abbrev Nrw : List Str := ["_law_bench_here", "_law_wares_here", "_law_script", "_law_k", "_law_number", "_law_many", "_law_phial", "_law_ware", "_law_kind_here", "_law_other", "_law_bottom"]
theorem scRow : FnScope Nrw ["_law_bench_here", "_law_wares_here", "_law_script", "_law_k"] (defScope sRow) := ⟨rfl, rfl, rfl, by decide +kernel, rfl, by decide +kernel, by decide +kernel⟩
theorem ok_row {f : Addr} {fd : FuncData} (F : Fun K "_law_row" "_law_row" sRow f fd) (T : Txt mg) (cC : Cal P w K mg base CX0 2 "_law_cell_at" ["_law_script", "_law_k"] (spCell K)) (cM : Cal P w K mg base CX0 2 "_law_mixed" ["_law_cell", "_law_k"] spMixed) (cF : Cal P w K mg base CX0 2 "_law_free_row" ["_law_bench_here", "_law_wares_here", "_law_left"] spFreeRow) (cU : Cal P w K mg base CX0 2 "_law_much" ["_law_number"] spMuch) (cL : Cal P w K mg base CX0 2 "_law_lowest" ["_law_top", "_law_bottom"] spLowest) : FnOk P w K mg base CX0 3 f fd ["_law_bench_here", "_law_wares_here", "_law_script", "_law_k"] (spRow K) := by
  refine F.ok scRow (fun vs H Q E h => ?_) (fun cdv A outer s H vs Q E hr h => ?_)
  · obtain ⟨_, _, _, _, _, _, _, rfl, _⟩ := h
    rfl
  · obtain ⟨b, wl, sc, nb, ws, ns, kk, rfl, bn, n1, n16, wv, hS, kl, k9, k⟩ := h
    refine ⟨_, (pss_cons (ps_if (pt_cmpR op_eq (pe_op op_mod (pe_cal cC hr rfl pass0 (pa_cons (pv 2) (pa_cons pe_int pa_nil))) pe_int) pe_int (nomark _))
        (pss_one (ps_ret (pe_cal cF hr rfl pass0 (pa_cons (pv 0) (pa_cons (pv 1) (pa_cons (pe_lst (pa_cons (pe_callB call_abs rfl T.abs' bt_abs (pa_cons (pe_ix ix_list (pv 2) (pv 3) (fun _ _ => rfl)) pa_nil)) pa_nil)) pa_nil))))))
        pss_nil)
      (pss_cons (ps_set (i := 4) scRow.nd rfl (Or.inl rfl) (pe_cal cM hr rfl pass0 (pa_cons (pe_ix ix_list (pv 2) (pv 3) (fun _ _ => rfl)) (pa_cons (pv 3) pa_nil))))
      (pss_cons (ps_set (i := 5) scRow.nd rfl (Or.inl rfl) (pe_callB call_len_seq rfl T.len PySem.boot_len (pa_cons (pit 0 0) pa_nil)))
      (pss_cons (ps_set (i := 6) scRow.nd rfl (Or.inl rfl) (pe_op op_mod (pe_op op_fdivB (pv 4) pe_int) (pv 5)))
      (pss_cons (ps_set (i := 7) scRow.nd rfl (Or.inl rfl) (pe_ix ix_list (pv 1) (pe_op op_mod (pe_op op_fdivB (pv 4) pe_int) (pe_callB call_len_seq rfl T.len PySem.boot_len (pa_cons (pv 1) pa_nil))) (fun _ _ => rfl)))
      (pss_cons (ps_set (i := 8) scRow.nd rfl (Or.inl rfl) (pe_ix ix_list (pe_lst (pa_c pe_str (pa_c pe_str (pa_c pe_str (pa_c pe_str (pa_c pe_str (pa_c pe_str (pa_c pe_str (pa_c pe_str (pa_c pe_str pa_nil)))))))))) (pe_op op_mod (pv 4) pe_int) (fun _ _ => rfl)))
      (pss_cons (ps_if (PW.pt (pw_or (pt_cmpR op_eq (pv 8) pe_str (nomark _)) (pw_or1 (pt_cmpR op_eq (pv 8) pe_str (nomark _)))))
        (pss_one (ps_ret (pe_tup (pa_cons (pv 8) (pa_cons (pv 6) (pa_cons (pv 7) (pa_cons (pe_cal cU hr rfl pass0 (pa_cons (pe_op op_fdivB (pv 4) pe_int) pa_nil)) pa_nil)))))))
        pss_nil)
      (pss_cons (ps_if (PW.pt (pw_and (pt_cmpR op_eq (pv 8) pe_str (nomark _)) (pw_and1 (pt_cmpR op_gt (pv 5) pe_int (nomark _)))))
        (pss_cons (ps_set (i := 9) scRow.nd rfl (Or.inl rfl) (pe_op op_mod (pe_op op_add (pe_op op_add (pv 6) pe_int) (pe_op op_mod (pe_op op_fdivB (pv 4) pe_int) (pe_op op_sub (pv 5) pe_int))) (pv 5)))
        (pss_cons (ps_set (i := 10) scRow.nd rfl (Or.inl rfl) (pe_op op_add pe_int (pe_op op_mod (pe_op op_fdivB (pv 4) pe_int) pe_int)))
        (pss_one (ps_ret (pe_tup (pa_cons (pv 8) (pa_cons (pv 6) (pa_cons (pv 9) (pa_cons (pe_cal cL hr rfl pass0 (pa_cons (pe_op op_add pe_int (pe_op op_mod (pe_op op_fdivB (pv 4) pe_int) (pv 10))) (pa_cons (pv 10) pa_nil))) pa_nil)))))))))
        pss_nil)
      (pss_cons (ps_if (pt_cmpR op_eq (pv 8) pe_str (nomark _))
        (pss_one (ps_ret (pe_tup (pa_cons pe_str (pa_cons (pv 6) pa_nil)))))
        pss_nil)
      (pss_one (ps_ret (pe_tup (pa_cons (pv 8) (pa_cons (pv 6) pa_nil)))))))))))))), ?_⟩
    obtain ⟨c, hc⟩ : ∃ c, ns[kk]? = some c := ⟨_, List.getElem?_eq_getElem kl⟩
    have hcat : atI (ns.map V.int) (kk : Int) = some (.int c) := atI_nat (by rw [List.getElem?_map, hc]; rfl)
    obtain ⟨r, q0, rs, hb, hrr, rl⟩ := id bn
    refine ⟨_, rfl, sc, ns, 0, rfl, hS, by decide, fun c0 => ⟨_, _, rfl, rfl, (by show (0 : Int) < 2; decide), rfl, _, rfl, ite2 (fun _ => ?_) (fun _ => ?_)⟩⟩
    · refine ⟨_, rfl, _, rfl, _, rfl, _, rfl, sc, _, (kk : Int), .int c, rfl, rfl, hS, hcat, c, rfl, (by show 1 ≤ sizeLine; decide), fun l nl => ?_⟩
      have c0' := abs_nonneg c
      generalize (if c < 0 then -c else c) = n at *
      have sl := Same.upd (o := .lst [.int n]) nl
      have hl : upd H l (.lst [.int n]) l = some (.lst [.int n]) := upd_same
      generalize upd H l (.lst [.int n]) = H1 at sl hl ⊢
      refine ⟨b, wl, l, nb, ws, rfl, bn.keep sl, n1, n16, ⟨sl _ _ wv.1, wv.2⟩, ⟨n, hl, c0'⟩, fun z H' sb lf gr => k z H' (same_smb sl sb nl) gr⟩
    · refine ⟨_, rfl, _, rfl, sc, _, (kk : Int), .int c, rfl, rfl, hS, hcat, _, rfl, c, (kk : Int), rfl, by omega, by omega, fun n n0 nl => ?_⟩
      refine ⟨b, _, _, rfl, SqT.of hb, rfl, r, _, rfl, .inr (SqT.of hrr), ?_⟩
      have nbp : (0 : Int) < ((rs.length : Nat) : Int) := by omega
      obtain ⟨p0, pn⟩ := emod_in (n / 16) nbp
      refine ⟨_, rfl, _, _, rfl, rfl, ⟨by decide, b9⟩, _, rfl, _, _, rfl, rfl, nbp, ?_⟩
      have wlen : (((ws.map V.str).length : Nat) : Int) = 6 := by rw [List.length_map, wv.2.1]; rfl
      obtain ⟨j0, jn⟩ := emod_in (n / 256) (m := 6) (by decide)
      obtain ⟨j, ej⟩ := Int.eq_ofNat_of_zero_le j0
      obtain ⟨x, hx⟩ : ∃ x, ws[j]? = some x := ⟨_, List.getElem?_eq_getElem (by have := wv.2.1; omega)⟩
      refine ⟨_, rfl, _, rfl, _, _, rfl, rfl, ⟨by decide, b9⟩, _, rfl, wl, _, rfl, .inl (SqL.of wv.1), _, _, rfl, rfl, by show (0 : Int) < _; rw [wlen]; decide, wl, _, _, .str x, rfl, rfl, SqL.of wv.1, by rw [wlen, ej]; exact atI_nat (by rw [List.getElem?_map, hx]; rfl), ?_⟩
      refine ⟨(by show 9 ≤ sizeLine; decide), fun z9 nz9 => ?_⟩
      have s9 := Same.upd (o := .lst [V.str "draw", .str "draw", .str "draw", .str "fill", .str "pour", .str "pour", .str "pour", .str "empty", .str "rinse"]) nz9
      have h9 : upd H z9 (.lst [V.str "draw", .str "draw", .str "draw", .str "fill", .str "pour", .str "pour", .str "pour", .str "empty", .str "rinse"]) z9 = some (.lst [V.str "draw", .str "draw", .str "draw", .str "fill", .str "pour", .str "pour", .str "pour", .str "empty", .str "rinse"]) := upd_same
      generalize upd H z9 (.lst [V.str "draw", .str "draw", .str "draw", .str "fill", .str "pour", .str "pour", .str "pour", .str "empty", .str "rinse"]) = H1 at s9 h9 ⊢
      obtain ⟨m0, ml⟩ := emod_in n (m := 9) (by decide)
      obtain ⟨wd, hat, hwd⟩ := pick9 m0 ml
      have pn' : (n / 16 % ((rs.length : Nat) : Int)) < (nb : Int) := by rw [← rl]; exact pn
      refine ⟨_, rfl, _, _, rfl, rfl, (by show (0 : Int) < 9; decide), z9, _, _, .str wd, rfl, rfl, SqL.of h9, hat, ?_⟩
      have wx := wv.2.2 x (List.mem_of_getElem? hx)
      have finO : ∀ {wd' : Str}, (wd' = "empty" ∨ wd' = "rinse") → ∀ z, H1 z = none → Q (.ref z) (upd H1 z (.tup [.str wd', .int (n / 16 % ((rs.length : Nat) : Int))])) := fun {wd'} hw z nz => k z _ (s9.trans (Same.upd nz)) (.one hw upd_same p0 pn')
      have finA : ∀ {wd' : Str}, (wd' = "draw" ∨ wd' = "fill") → ∀ q t b' H7 z, Same H H7 → H7 q = some (.tup [.int t, .int b']) → Rm t b' → H7 z = none → Q (.ref z) (upd H7 z (.tup [.str wd', .int (n / 16 % ((rs.length : Nat) : Int)), .str x, .ref q])) := fun {wd'} hw q t b' H7 z s7 hq rm nz => k z _ (s7.trans (Same.upd nz)) (.am hw upd_same p0 pn' wx (Same.upd nz _ _ hq) rm)
      have n4 : 0 ≤ n / 4096 ∧ n / 4096 < 2147483647 := ⟨Int.ediv_nonneg n0 (by decide), Int.lt_of_le_of_lt (Int.ediv_le_self _ n0) nl⟩
      rcases hwd with rfl | rfl | rfl | rfl | rfl
      · refine ⟨_, rfl, rfl, _, rfl, iteT ⟨_, rfl, _, rfl, _, rfl, _, rfl, _, _, rfl, rfl, ⟨by decide, b9⟩, _, rfl, n4.1, n4.2, fun t b' q H7 rm s7 nq hq => ⟨(by show 4 ≤ sizeLine; decide), fun z nz => finA (.inl rfl) q t b' H7 z (s9.trans s7) hq rm nz⟩⟩⟩
      · refine ⟨_, rfl, rfl, _, rfl, iteF ⟨_, rfl, rfl, _, rfl, iteT ⟨_, rfl, _, rfl, _, rfl, _, rfl, _, _, rfl, rfl, ⟨by decide, b9⟩, _, rfl, n4.1, n4.2, fun t b' q H7 rm s7 nq hq => ⟨(by show 4 ≤ sizeLine; decide), fun z nz => finA (.inr rfl) q t b' H7 z (s9.trans s7) hq rm nz⟩⟩⟩⟩
      · refine ⟨_, rfl, rfl, _, rfl, iteF ⟨_, rfl, rfl, _, rfl, iteF ⟨_, rfl, rfl, _, rfl, iteT ⟨_, rfl, _, _, rfl, rfl, _, rfl, ite2 (fun hc2 => ?_) (fun hc2 => ?_)⟩⟩⟩⟩
        · have n2 : (1 : Int) < ((rs.length : Nat) : Int) := of_decide_eq_true hc2
          have m1 : (0 : Int) < ((rs.length : Nat) : Int) - 1 := by omega
          obtain ⟨d0, dl⟩ := emod_in (n / 256) m1
          obtain ⟨o0, ol, po⟩ := other_ne p0 pn d0 dl
          refine ⟨_, rfl, _, _, rfl, rfl, _, rfl, _, _, rfl, rfl, ⟨by decide, b9⟩, _, rfl, _, _, rfl, rfl, _, _, rfl, rfl, m1, _, _, rfl, rfl, _, rfl, _, _, rfl, rfl, nbp, ?_⟩
          obtain ⟨e0, el⟩ := emod_in (n / 4096) (m := 7) (by decide)
          refine ⟨_, rfl, _, _, rfl, rfl, ⟨by decide, b9⟩, _, _, rfl, rfl, (by show (0 : Int) < 7; decide), _, _, rfl, rfl, ?_⟩
          have bp : (0 : Int) < 1 + n / 4096 % 7 := by omega
          obtain ⟨f0, fl⟩ := emod_in (n / 32768) bp
          have sbt : Bt 100 (1 + n / 4096 % 7) := bt_lt 100 (c := 101) (by omega) (by omega)
          obtain ⟨rm, le⟩ := part_ok f0 fl (by omega) sbt
          refine ⟨_, rfl, _, rfl, _, rfl, _, rfl, _, _, rfl, rfl, ⟨by decide, b9⟩, _, rfl, _, _, rfl, rfl, bp, _, _, rfl, rfl, _, rfl, _, _, rfl, by omega, by omega, sbt.mono (by decide), fun q H7 s7 nq hq => ⟨(by show 4 ≤ sizeLine; decide), fun z nz => ?_⟩⟩
          exact k z _ ((s9.trans s7).trans (Same.upd nz)) (.pour upd_same p0 pn' o0 (by rw [← rl]; exact ol) po (Same.upd nz _ _ hq) rm le)
        · refine ⟨_, rfl, rfl, _, rfl, iteT ⟨_, rfl, (by show 2 ≤ sizeLine; decide), fun z nz => finO (.inl rfl) z nz⟩⟩
      · exact ⟨_, rfl, rfl, _, rfl, iteF ⟨_, rfl, rfl, _, rfl, iteF ⟨_, rfl, rfl, _, rfl, iteF (iteF ⟨_, rfl, rfl, _, rfl, iteF ⟨_, rfl, _, rfl, (by show 2 ≤ sizeLine; decide), fun z nz => finO (.inl rfl) z nz⟩⟩)⟩⟩⟩
      · exact ⟨_, rfl, rfl, _, rfl, iteF ⟨_, rfl, rfl, _, rfl, iteF ⟨_, rfl, rfl, _, rfl, iteF (iteF ⟨_, rfl, rfl, _, rfl, iteF ⟨_, rfl, _, rfl, (by show 2 ≤ sizeLine; decide), fun z nz => finO (.inr rfl) z nz⟩⟩)⟩⟩⟩
end
end K36

namespace K36
open PySem PySem.Spec PyProof.Rows L2 GM TM TR
theorem ph_true {K : PySem.W.Frag} {H : Hp} {nb : Nat} {p : Int} (h0 : 0 ≤ p) (h : p < (nb : Int)) : KindV K H nb "phial" (.int p) true := by
  have := KindV.ph (K := K) (H := H) (nb := nb) (n := p)
  rw [decide_eq_true h0, decide_eq_true h] at this
  exact this
theorem wr_true {K : PySem.W.Frag} {H : Hp} {nb : Nat} {x : Str} (h : Wr x) : KindV K H nb "ware" (.str x) true := by
  have := KindV.wa (K := K) (H := H) (nb := nb) (x := x) (by have := h.l8; omega)
  rw [decide_eq_true h] at this
  exact this
theorem each3 {K : PySem.W.Frag} {H : Hp} {nb : Nat} {k1 k2 k3 : Str} {u1 u2 u3 : V} {b1 b2 b3 : Bool} (h1 : KindV K H nb k1 u1 b1) (h2 : KindV K H nb k2 u2 b2) (h3 : KindV K H nb k3 u3 b3) : EachK K H nb [k1, k2, k3] [u1, u2, u3] [b1, b2, b3] := ⟨rfl, rfl, fun i k u β hk hu hβ => by
  match i, hk, hu, hβ with
  | 0, hk, hu, hβ => cases hk; cases hu; cases hβ; exact h1
  | 1, hk, hu, hβ => cases hk; cases hu; cases hβ; exact h2
  | 2, hk, hu, hβ => cases hk; cases hu; cases hβ; exact h3
  | n + 3, hk, _, _ => simp at hk⟩
theorem each2 {K : PySem.W.Frag} {H : Hp} {nb : Nat} {k1 k2 : Str} {u1 u2 : V} {b1 b2 : Bool} (h1 : KindV K H nb k1 u1 b1) (h2 : KindV K H nb k2 u2 b2) : EachK K H nb [k1, k2] [u1, u2] [b1, b2] := ⟨rfl, rfl, fun i k u β hk hu hβ => by
  match i, hk, hu, hβ with
  | 0, hk, hu, hβ => cases hk; cases hu; cases hβ; exact h1
  | 1, hk, hu, hβ => cases hk; cases hu; cases hβ; exact h2
  | n + 2, hk, _, _ => simp at hk⟩
theorem eachC {K : PySem.W.Frag} {H : Hp} {nb : Nat} {k1 : Str} {ks : List Str} {u1 : V} {us : List V} {b1 : Bool} {bs : List Bool} (h1 : KindV K H nb k1 u1 b1) (h : EachK K H nb ks us bs) : EachK K H nb (k1 :: ks) (u1 :: us) (b1 :: bs) := ⟨congrArg (· + 1) h.1, congrArg (· + 1) h.2.1, fun i k u β hk hu hβ => by
  cases i with
  | zero => cases hk; cases hu; cases hβ; exact h1
  | succ i => exact h.2.2 i k u β (by simpa using hk) (by simpa using hu) (by simpa using hβ)⟩
theorem big_no {K : PySem.W.Frag} {H : Hp} {nb : Nat} {a : Addr} {x : Str} {us : List V} {ks : List Str} {βs : List Bool} (h : H a = some (.tup (.str x :: us))) (hf : frm x = some ks) (e : EachK K H nb ks us βs) (n : βs.all id = false) : RowV K H nb (.ref a) false := .big h hf e (fun _ => rfl) (fun t => by rw [n] at t; cases t)
theorem amg {K : PySem.W.Frag} {H : Hp} {q : Addr} {t b : Int} (h : H q = some (.tup [.int t, .int b])) (rm : Rm t b) : AmG K H q t b := ⟨SqT.of h, by have := rm.t1; omega, rm.b1, rm.g⟩
theorem ne01 {t b : Int} (h : 1 ≤ t) : (!decide ([t, b] = [0, 1])) = true := by
  rw [decide_eq_false fun z => by cases z; omega]
  rfl
/-- a good row's shape: a phial first -/
theorem GR.shape {K : PySem.W.Frag} {H : Hp} {nb : Nat} {z : Addr} (h : GR H nb z) : ∃ wd u0 us ks βs, H z = some (.tup (.str wd :: u0 :: us)) ∧ frm wd = some (("phial" : Str) :: ks) ∧ EachK K H nb ks us βs ∧ us.length ≤ 2 ∧ RowV K H nb (.ref z) true ∧ ∀ u ∈ u0 :: us, Sf u := by
  cases h with
  | @am wd p x q t b hw hz p0 pn wx hq rm =>
    have e1 := ne01 (b := b) rm.t1
    have am := amg (K := K) hq rm
    have sf : ∀ u ∈ [V.int p, .str x, .ref q], Sf u := fun u hu => by
      simp only [List.mem_cons, List.not_mem_nil, or_false] at hu
      rcases hu with rfl | rfl | rfl
      · exact .inl rfl
      · exact .inl rfl
      · exact .inr ⟨q, rfl⟩
    rcases hw with rfl | rfl
    · have m := KindV.mu (nb := nb) am
      rw [e1] at m
      exact ⟨"draw", _, _, ["ware", "amount"], _, hz, by decide +kernel, each2 (wr_true wx) m, by show 2 ≤ 2; decide, .big hz (ks := ["phial", "ware", "amount"]) (by decide +kernel) (each3 (ph_true p0 pn) (wr_true wx) m) (fun e => by cases e) (fun _ => .inl ⟨by decide +kernel, rfl⟩), sf⟩
    · have m := KindV.lv (nb := nb) am
      exact ⟨"fill", _, _, ["ware", "level"], _, hz, by decide +kernel, each2 (wr_true wx) m, by show 2 ≤ 2; decide, .big hz (ks := ["phial", "ware", "level"]) (by decide +kernel) (each3 (ph_true p0 pn) (wr_true wx) m) (fun e => by cases e) (fun _ => .inl ⟨by decide +kernel, rfl⟩), sf⟩
  | @pour p o q t b hz p0 pn o0 on po hq rm le =>
    have m := KindV.pa (nb := nb) (amg (K := K) hq rm)
    rw [ne01 rm.t1, decide_eq_false (show ¬ b < t by omega)] at m
    refine ⟨"pour", _, _, ["phial", "part"], _, hz, by decide +kernel, each2 (ph_true o0 on) m, by show 2 ≤ 2; decide, .big hz (ks := ["phial", "phial", "part"]) (by decide +kernel) (each3 (ph_true p0 pn) (ph_true o0 on) m) (fun e => by cases e) (fun _ => .inr ⟨rfl, p, o, _, rfl, ?_⟩), fun u hu => ?_⟩
    · rw [decide_eq_false fun z => po (V.int.inj z)]
      rfl
    · simp only [List.mem_cons, List.not_mem_nil, or_false] at hu
      rcases hu with rfl | rfl | rfl
      · exact .inl rfl
      · exact .inl rfl
      · exact .inr ⟨q, rfl⟩
  | @one wd p hw hz p0 pn =>
    have e1 : EachK K H nb ["phial"] [.int p] [true] := eachC (ph_true p0 pn) ⟨rfl, rfl, fun i k u β hk => by simp at hk⟩
    have sf : ∀ u ∈ [V.int p], Sf u := fun u hu => by rw [List.mem_singleton.mp hu]; exact .inl rfl
    rcases hw with rfl | rfl
    · exact ⟨"empty", _, _, [], [], hz, by decide +kernel, ⟨rfl, rfl, fun i k u β hk => by simp at hk⟩, by show 0 ≤ 2; decide, .big hz (by decide +kernel) e1 (fun e => by cases e) (fun _ => .inl ⟨by decide +kernel, rfl⟩), sf⟩
    · exact ⟨"rinse", _, _, [], [], hz, by decide +kernel, ⟨rfl, rfl, fun i k u β hk => by simp at hk⟩, by show 0 ≤ 2; decide, .big hz (by decide +kernel) e1 (fun e => by cases e) (fun _ => .inl ⟨by decide +kernel, rfl⟩), sf⟩
def spOddP (K : PySem.W.Frag) : Sp := fun vs H Q _ => ∃ (nb : Nat) (wy far : Int), vs = [.int (nb : Nat), .int wy, .int far] ∧ 0 ≤ wy ∧ wy < 9 ∧ 0 ≤ far ∧ ∀ u H', Same H H' → KindV K H' nb "phial" u false → Q u H'
def spOddM (K : PySem.W.Frag) : Sp := fun vs H Q _ => ∃ (wy far : Int), vs = [.int wy, .int far] ∧ 0 ≤ wy ∧ wy < 11 ∧ 0 ≤ far ∧ ∀ u H', Same H H' → (∀ nb, KindV K H' nb "amount" u false) → Q u H'
section
variable {P : Program} {w : World} {K : PySem.W.Frag} {mg : Str → Option Value} {base : Heap}
theorem scOddP : FnScope ["_law_many", "_law_way", "_law_far"] ["_law_many", "_law_way", "_law_far"] (defScope sOddPh) := ⟨rfl, rfl, rfl, by decide +kernel, rfl, by decide +kernel, by decide +kernel⟩
theorem ok_oddp {f : Addr} {fd : FuncData} (F : Fun K "_law_odd_phial" "_law_odd_phial" sOddPh f fd) : FnOk P w K mg base CX0 1 f fd ["_law_many", "_law_way", "_law_far"] (spOddP K) := by
  refine F.ok scOddP (fun vs H Q E h => ?_) (fun cdv A outer s H vs Q E hr h => ?_)
  · obtain ⟨_, _, _, rfl, _⟩ := h
    rfl
  · obtain ⟨nb, wy, far, rfl, w0, w9, f0, k⟩ := h
    refine ⟨_, (pss_one (ps_ret (pe_ix ix_list (pe_lst (pa_c (pv 0) (pa_c (pe_op op_add (pv 0) (pv 2)) (pa_c (pe_un un_neg pe_int) (pa_c (pe_op op_sub (pe_un un_neg pe_int) (pv 2)) (pa_c pe_bl (pa_c pe_non (pa_c pe_str (pa_c (pe_lst (pa_c pe_int pa_nil)) (pa_c (pe_tup (pa_c pe_int pa_nil)) pa_nil)))))))))) (pv 1) (fun _ _ => rfl)))), ?_⟩
    refine ⟨_, rfl, _, rfl, _, rfl, _, _, rfl, rfl, _, rfl, _, rfl, _, rfl, _, _, rfl, rfl, (by show 1 ≤ sizeLine; decide), fun z1 n1 => ⟨(by show 1 ≤ sizeLine; decide), fun z2 n2 => ⟨(by show 9 ≤ sizeLine; decide), fun z3 n3 => ?_⟩⟩⟩
    have s1 := Same.upd (o := .lst [.int 0]) n1
    have s2 := Same.upd (o := .tup [.int 0]) n2
    have s3 := Same.upd (o := .lst [.int (nb : Nat), .int (((nb : Nat) : Int) + far), .int (-1), .int (-1 - far), .bl true, .non, .str "0", .ref z1, .ref z2]) n3
    have h1 := (s2.trans s3) _ _ (upd_same (H := H) (a := z1) (o := .lst [.int 0]))
    have h2 := s3 _ _ (upd_same (H := upd H z1 (.lst [.int 0])) (a := z2) (o := .tup [.int 0]))
    have h3 := upd_same (H := upd (upd H z1 (.lst [.int 0])) z2 (.tup [.int 0])) (a := z3) (o := .lst [.int (nb : Nat), .int (((nb : Nat) : Int) + far), .int (-1), .int (-1 - far), .bl true, .non, .str "0", .ref z1, .ref z2])
    have s03 := (s1.trans s2).trans s3
    have goal : ∀ u H', Same H H' → H' z1 = some (.lst [.int 0]) → H' z2 = some (.tup [.int 0]) → atI [.int (nb : Nat), .int (((nb : Nat) : Int) + far), .int (-1), .int (-1 - far), .bl true, .non, .str "0", .ref z1, .ref z2] wy = some u → KindV K H' nb "phial" u false := fun u H' s' g1 g2 hat => by
      have nn : ∀ n : Int, n < 0 ∨ (nb : Int) ≤ n → KindV K H' nb "phial" (.int n) false := fun n hn => by
        have := KindV.ph (K := K) (H := H') (nb := nb) (n := n)
        rcases hn with hn | hn
        · rw [decide_eq_false (show ¬ 0 ≤ n by omega)] at this
          exact this
        · rw [decide_eq_false (show ¬ n < (nb : Int) by omega), Bool.and_false] at this
          exact this
      have : wy = 0 ∨ wy = 1 ∨ wy = 2 ∨ wy = 3 ∨ wy = 4 ∨ wy = 5 ∨ wy = 6 ∨ wy = 7 ∨ wy = 8 := by omega
      rcases this with rfl | rfl | rfl | rfl | rfl | rfl | rfl | rfl | rfl
      · cases (show some (V.int (nb : Nat)) = some u from hat); exact nn _ (.inr (Int.le_refl _))
      · cases (show some (V.int (((nb : Nat) : Int) + far)) = some u from hat); exact nn _ (.inr (by omega))
      · cases (show some (V.int (-1)) = some u from hat); exact nn _ (.inl (by decide))
      · cases (show some (V.int (-1 - far)) = some u from hat); exact nn _ (.inl (by omega))
      · cases (show some (V.bl true) = some u from hat); exact .phb .bl
      · cases (show some V.non = some u from hat); exact .phb (.oth .non_int)
      · cases (show some (V.str "0") = some u from hat); exact .phb (.oth .str_int)
      · cases (show some (V.ref z1) = some u from hat); exact .phb (.oth (.lst_int (SqL.of g1)))
      · cases (show some (V.ref z2) = some u from hat); exact .phb (.oth (.tup_int (SqT.of g2)))
    obtain ⟨u, hat⟩ : ∃ u, atI [V.int (nb : Nat), .int (((nb : Nat) : Int) + far), .int (-1), .int (-1 - far), .bl true, .non, .str "0", .ref z1, .ref z2] wy = some u := by
      have : wy = 0 ∨ wy = 1 ∨ wy = 2 ∨ wy = 3 ∨ wy = 4 ∨ wy = 5 ∨ wy = 6 ∨ wy = 7 ∨ wy = 8 := by omega
      rcases this with rfl | rfl | rfl | rfl | rfl | rfl | rfl | rfl | rfl <;> exact ⟨_, rfl⟩
    exact ⟨_, rfl, z3, _, wy, u, rfl, rfl, SqL.of h3, hat, k u _ s03 (goal u _ s03 h1 h2 hat)⟩
end
end K36

namespace SX
open PySem PySem.Spec PyProof.Rows
/-! ### sets of texts -/
def byT (w : World) : Bool := w.params.followText "set-order"
def kv : Value → Str
  | .str x _ => x
  | _ => ⟨#[]⟩
def setO (es : Array (Int × Value)) (ep : Nat) (t : SetTable) : Obj := { cls := .type "set", dict := none, data := .set es ep t, slots := #[] }
/-- the set at a holds just the texts ks -/
structure SetS (P : Program) (w : World) (h : Heap) (a : Addr) (ks : List Str) : Prop where
  ex : ∃ es ep t, h.get? a = some (setO es ep t) ∧ ElemsOf (strKind P w) es.toList ∧ t.fits es.size = true ∧ t.led = (!byT w) ∧ (t.plain = false ∨ es.size = 0) ∧ (es.toList.map fun e => kv e.2).Perm ks
  nd : ks.Nodup
  lt : ks.length < scanBound
def dd (ks : List Str) (x : Str) : List Str := if x ∈ ks then ks else ks ++ [x]
def ddl (ss : List Str) : List Str := ss.foldl dd []
section
variable {P : Program} {w : World} {A : Around} {E : Value → Shared → Prop} {s : Shared}
end
end SX

namespace SX
open PySem PySem.Spec PyProof.Rows
section
variable {P : Program} {w : World} {A : Around} {R : Result → Shared → Prop} {I : Addr} {fp wr : List Addr} {G : Array GenState → Array GenState → Prop} {n : Nat} {Pr : Nat → Value → Prop} {St : Nat → Shared → Prop}
end
section
variable {P : Program} {w : World} {A : Around} {E : Value → Shared → Prop} {s : Shared}
abbrev nuSet (w : World) : Obj := setO #[] 0 (.fresh 0 0 (!byT w))
end
end SX

namespace SX
open PySem PySem.Spec PyProof.Rows
/-! ### a walk over a set of texts, in any order -/
def itO (f : Value) (i : Int) (n ep : Nat) (a : Addr) : Obj := { cls := .type "set_iterator", dict := none, data := .fields #[f, .int i 0, .ref a, .int n 0, .int ep 0], slots := #[] }
section
variable {P : Program} {w : World} {A : Around} {E : Value → Shared → Prop} {s : Shared}
end
end SX

namespace SX
open PySem PySem.Spec PyProof.Rows
abbrev IP (ord : List Value) (i : Nat) (v : Value) : Prop := ord[i]? = some v
section
variable {P : Program} {w : World} {A : Around} {E : Value → Shared → Prop} {s : Shared} {a I : Addr} {es : Array (Int × Value)} {ep : Nat} {t : SetTable}
end
end SX

namespace SX
open PySem PySem.Spec PyProof.Rows
section
variable {P : Program} {w : World} {A : Around} {E : Value → Shared → Prop} {s : Shared} {a I : Addr} {es : Array (Int × Value)} {ep : Nat} {t : SetTable}
end
end SX

namespace SX
open PySem PySem.Spec PyProof.Rows
section
variable {P : Program} {w : World} {A : Around} {E : Value → Shared → Prop} {s : Shared} {a : Addr} {ks : List Str}
end
end SX

namespace L2
open PySem PySem.Spec PyProof.Rows
/-! ### set(xs), sorted(set(xs)) of a list of texts -/
abbrev SetT (X : Cx) (a : Addr) (ks : List Str) : HO := .ext fun h => SX.SetS X.prog X.w h a ks
section
variable {X : Cx}
def rSetS (X : Cx) : List V → Hp → VK → Prop := fun xs H Q => ∃ a, ∃ ss : List Str, xs = [.ref a] ∧ SqL X.K H a (ss.map V.str) ∧ ss.length < 1000 ∧ ∀ p, H p = none → Q (.ref p) (upd H p (SetT X p (SX.ddl ss)))
def rSortSet (X : Cx) : List V → Hp → VK → Prop := fun xs H Q => ∃ a, ∃ ks : List Str, xs = [.ref a] ∧ H a = some (SetT X a ks) ∧ ks.length < 64 ∧ ∀ (p : Addr) (ss' : List Str), ss'.Perm ks → sortedS ss' = true → H p = none → Q (.ref p) (upd H p (.lst (ss'.map V.str)))
end
end L2

namespace L2
open PySem PySem.Spec PyProof.Rows
/-! ### statements whose reading must not be unfolded while it is found: PS and PSs under a hood -/
structure PSX (X : Cx) (st : Stmt) (t : TS) : Prop where
  h : PS X st t
structure PSB (X : Cx) (l : List Stmt) (t : TS) : Prop where
  h : PSs X l t
theorem psx_of {X : Cx} {st : Stmt} {t : TS} (h : PS X st t) : PSX X st t := ⟨h⟩
theorem psb_cons {X : Cx} {st : Stmt} {t u : TS} {rest : List Stmt} (h1 : PSX X st t) (h2 : PSB X rest u) : PSB X (st :: rest) (tSeq t u) := ⟨pss_cons h1.h h2.h⟩
end L2

namespace HT
open PySem PySem.Spec PyProof.Rows
section
variable {prog : Program} {w : World} {A : Around} {E : Value → Shared → Prop} {s : Shared}
end
end HT
namespace L2
open PySem PySem.Spec PyProof.Rows
section
variable {X : Cx}
/-- t * k of a tuple that is not empty, k from 1 on: t * 1 is t itself -/
def rRepTA (K : PySem.W.Frag) : R2 := fun x y H Q => ∃ a k xs, x = .ref a ∧ y = .int k ∧ SqT K H a xs ∧ xs ≠ [] ∧ 1 ≤ k ∧ k ≤ 1000 ∧ xs.length ≤ 1000 ∧ (k = 1 → Q (.ref a) H) ∧ (2 ≤ k → ∀ p, H p = none → Q (.ref p) (upd H p (.tup (List.replicate k.toNat xs).flatten)))
/-- t + u, u not empty and laid here: the heap grows by the new tuple, or is as it was -/
def rCatTB (K : PySem.W.Frag) : R2 := fun x y H Q => ∃ a b xs ys, x = .ref a ∧ y = .ref b ∧ SqT K H a xs ∧ H b = some (.tup ys) ∧ ys ≠ [] ∧ xs.length + ys.length ≤ sizeLine ∧ ∀ p H', Same H H' → H' p = some (.tup (xs ++ ys)) → Q (.ref p) H'
end
end L2

namespace L2
open PySem PySem.Spec PyProof.Rows
/-! ### expressions under a hood: displays of constants -/
structure PEX (X : Cx) (e : Expr) (t : TE) : Prop where
  h : PE X e t
structure PAX (X : Cx) (es : List Expr) (t : TA) : Prop where
  h : PA X es t
section
variable {X : Cx}
theorem x_int {i j pos} : PEX X (.Constant (.int i) j pos) (tC (.int i)) := ⟨pe_int⟩
theorem x_str {x j pos} : PEX X (.Constant (.str x) j pos) (tC (.str x)) := ⟨pe_str⟩
theorem x_nil : PAX X [] tNil := ⟨pa_nil⟩
theorem x_tup {es : List Expr} {t : TA} {x1} {pos : Pos} (h : PAX X es t) : PEX X (.Tuple es x1 pos) (tTup t) := ⟨pe_tup h.h⟩
theorem psx_setX {i : Nat} {x : Str} {e : Expr} {te : TE} {pos pos' : Pos} (hN : X.N.Nodup) (hi : X.N[i]? = some x) (hx : Loc X.env.scope x) (he : PEX X e te) (hs : swapsWith e (some (.Name x pos')) pos.line X.env = pure false := by rfl) (hf : X.fn x = true ∨ X.env.scope.names.lookup x = some .local := by first | exact .inl rfl | exact .inr rfl | assumption) :
    PSX X (.Assign [.Name x pos'] e pos) (tAsg te (gName i)) := ⟨ps_set hN hi hx he.h hs hf⟩
theorem psb_one {st : Stmt} {t : TS} (h : PSX X st t) : PSB X [st] t := ⟨pss_one h.h⟩
end
end L2

namespace L2
open PySem PySem.Spec PyProof.Rows
/-! more expressions under a hood -/
section
variable {X : Cx}
theorem x_of {e : Expr} {t : TE} (h : PE X e t) : PEX X e t := ⟨h⟩
theorem x_c {e : Expr} {es : List Expr} {te : TE} {t : TA} (ha : PEX X e te) (hr : PAX X es t) (hf : starFree e = true := by rfl) : PAX X (e :: es) (tCons te t) := ⟨pa_c ha.h hr.h hf⟩
theorem x_lst {es : List Expr} {t : TA} {pos : Pos} (h : PAX X es t) : PEX X (.List es pos) (tLst t) := ⟨pe_lst h.h⟩
theorem x_bl {b j pos} : PEX X (.Constant (.bool b) j pos) (tC (.bl b)) := ⟨pe_bl⟩
theorem x_non {j pos} : PEX X (.Constant .none j pos) (tC .non) := ⟨pe_non⟩
end
end L2

namespace K36
open PySem PySem.Spec PyProof.Rows L2 GM TM TR
theorem am_no {K : PySem.W.Frag} {H : Hp} {q : Addr} {t b : Int} (h : SqT K H q [.int t, .int b]) (n : t < 0 ∨ b < 1 ∨ G t b ≠ 1) : AmV K H (.ref q) false := by
  have := AmV.two h
  rcases n with n | n | n
  · rw [decide_eq_false (show ¬ 0 ≤ t by omega)] at this
    exact this
  · rw [decide_eq_false (show ¬ 1 ≤ b by omega), Bool.false_and, Bool.and_false] at this
    exact this
  · rw [decide_eq_false n, Bool.and_false, Bool.and_false] at this
    exact this
theorem g22 {f : Int} : G (2 + 2 * f) 2 ≠ 1 := fun e => by
  have h : (2 : Int) ∣ G (2 + 2 * f) 2 := Int.dvd_coe_gcd ⟨1 + f, by omega⟩ ⟨1, by decide⟩
  rw [e] at h
  obtain ⟨k, hk⟩ := h
  omega
theorem g11 {f : Int} (h : 1 ≤ f) : G (1 + f) f = 1 := by
  have p := G_pos (a := 1 + f) (b := f) (by omega)
  have d1 := G_dvd_l (1 + f) f
  have d2 := G_dvd_r (1 + f) f
  have d : G (1 + f) f ∣ 1 := by
    have := Int.dvd_sub d1 d2
    rwa [show 1 + f - f = 1 by omega] at this
  exact Int.le_antisymm (Int.le_of_dvd (by decide) d) (by omega)
def spSpoil (K : PySem.W.Frag) : Sp := fun vs H Q _ => ∃ (b z : Addr) (nb : Nat) (wy far : Int), vs = [.ref b, .ref z, .int wy, .int far] ∧ BnV H b nb ∧ 1 ≤ nb ∧ nb ≤ 16 ∧ GR H nb z ∧ 0 ≤ wy ∧ wy < 40 ∧ 0 ≤ far ∧ ∀ v H', Same H H' → RowV K H' nb v false → Q v H'
section
variable {P : Program} {w : World} {K : PySem.W.Frag} {mg : Str → Option Value} {base : Heap}
theorem scOddM : FnScope ["_law_way", "_law_far", "_law_some"] ["_law_way", "_law_far"] (defScope sOddMu) := ⟨rfl, rfl, rfl, by decide +kernel, rfl, by decide +kernel, by decide +kernel⟩
theorem ok_oddm {f : Addr} {fd : FuncData} (F : Fun K "_law_odd_much" "_law_odd_much" sOddMu f fd) : FnOk P w K mg base CX0 1 f fd ["_law_way", "_law_far"] (spOddM K) := by
  refine F.ok scOddM (fun vs H Q E h => ?_) (fun cdv A outer s H vs Q E hr h => ?_)
  · obtain ⟨_, _, rfl, _⟩ := h
    rfl
  · obtain ⟨wy, far, rfl, w0, w11, f0, k⟩ := h
    refine ⟨_, PSB.h (psb_cons (psx_setX (i := 2) scOddM.nd rfl (Or.inl rfl) (x_lst (x_c (x_tup (x_c x_int (x_c x_int x_nil))) (x_c (x_tup (x_c (x_of (pe_op op_sub (pe_un un_neg pe_int) (pv 1))) (x_c x_int x_nil))) (x_c (x_tup (x_c (x_of (pe_op op_add pe_int (pe_op op_mul pe_int (pv 1)))) (x_c x_int x_nil))) (x_c x_int (x_c x_non (x_c x_str (x_c (x_lst (x_c x_int (x_c x_int x_nil))) (x_c (x_tup (x_c x_int x_nil)) (x_c (x_tup (x_c x_int (x_c x_int (x_c x_int x_nil)))) (x_c (x_tup (x_c x_bl (x_c x_int x_nil))) (x_c (x_tup (x_c x_int (x_c x_int x_nil))) x_nil)))))))))))))
      (psb_one (psx_of (ps_ret (pe_ix ix_list (pv 2) (pv 0) (fun _ _ => rfl)))))), ?_⟩
    refine ⟨(by show 2 ≤ sizeLine; decide), fun z0 n0 => ?_⟩
    refine ⟨_, rfl, _, rfl, _, _, rfl, rfl, (by show 2 ≤ sizeLine; decide), fun z1 n1 => ?_⟩
    refine ⟨_, rfl, _, _, rfl, rfl, .inl ⟨by decide, by decide⟩, _, _, rfl, rfl, (by show 2 ≤ sizeLine; decide), fun z2 n2 => ?_⟩
    refine ⟨(by show 2 ≤ sizeLine; decide), fun z3 n3 => ⟨(by show 1 ≤ sizeLine; decide), fun z4 n4 => ⟨(by show 3 ≤ sizeLine; decide), fun z5 n5 => ⟨(by show 2 ≤ sizeLine; decide), fun z6 n6 => ⟨(by show 2 ≤ sizeLine; decide), fun z7 n7 => ⟨(by show 11 ≤ sizeLine; decide), fun z8 n8 => ?_⟩⟩⟩⟩⟩⟩
    have s0 := Same.upd (o := .tup [.int 0, .int 1]) n0
    have s1 := Same.upd (o := .tup [.int (-1 - far), .int 2]) n1
    have s2 := Same.upd (o := .tup [.int (2 + 2 * far), .int 2]) n2
    have s3 := Same.upd (o := .lst [.int 1, .int 2]) n3
    have s4 := Same.upd (o := .tup [.int 1]) n4
    have s5 := Same.upd (o := .tup [.int 1, .int 2, .int 3]) n5
    have s6 := Same.upd (o := .tup [.bl true, .int 1]) n6
    have s7 := Same.upd (o := .tup [.int 1, .int 0]) n7
    have s8 := Same.upd (o := .lst [.ref z0, .ref z1, .ref z2, .int 1, .non, .str "1", .ref z3, .ref z4, .ref z5, .ref z6, .ref z7]) n8
    have t7 := s8
    have t6 := s7.trans t7
    have t5 := s6.trans t6
    have t4 := s5.trans t5
    have t3 := s4.trans t4
    have t2 := s3.trans t3
    have t1 := s2.trans t2
    have t0 := s1.trans t1
    have t := s0.trans t0
    have g0 := t0 _ _ upd_same
    have g1 := t1 _ _ upd_same
    have g2 := t2 _ _ upd_same
    have g3 := t3 _ _ upd_same
    have g4 := t4 _ _ upd_same
    have g5 := t5 _ _ upd_same
    have g6 := t6 _ _ upd_same
    have g7 := t7 _ _ upd_same
    clear s0 s1 s2 s3 s4 s5 s6 s7 s8 t0 t1 t2 t3 t4 t5 t6 t7
    have goal : ∀ Hf, Same H Hf → Hf z0 = some (.tup [.int 0, .int 1]) → Hf z1 = some (.tup [.int (-1 - far), .int 2]) → Hf z2 = some (.tup [.int (2 + 2 * far), .int 2]) → Hf z3 = some (.lst [.int 1, .int 2]) → Hf z4 = some (.tup [.int 1]) → Hf z5 = some (.tup [.int 1, .int 2, .int 3]) → Hf z6 = some (.tup [.bl true, .int 1]) → Hf z7 = some (.tup [.int 1, .int 0]) → ∃ u, atI [V.ref z0, .ref z1, .ref z2, .int 1, .non, .str "1", .ref z3, .ref z4, .ref z5, .ref z6, .ref z7] wy = some u ∧ Q u Hf := fun Hf sf g0 g1 g2 g3 g4 g5 g6 g7 => by
      have bad : ∀ {u}, AmV K Hf u false → Q u Hf := fun {u} h => k u Hf sf fun nb => .am (.inl rfl) h
      have : wy = 0 ∨ wy = 1 ∨ wy = 2 ∨ wy = 3 ∨ wy = 4 ∨ wy = 5 ∨ wy = 6 ∨ wy = 7 ∨ wy = 8 ∨ wy = 9 ∨ wy = 10 := by omega
      rcases this with rfl | rfl | rfl | rfl | rfl | rfl | rfl | rfl | rfl | rfl | rfl
      · refine ⟨_, rfl, k _ Hf sf fun nb => ?_⟩
        exact KindV.mu (nb := nb) (t := 0) (b := 1) ⟨SqT.of g0, by decide, by decide, by decide +kernel⟩
      · exact ⟨_, rfl, bad (am_no (SqT.of g1) (.inl (by omega)))⟩
      · exact ⟨_, rfl, bad (am_no (SqT.of g2) (.inr (.inr g22)))⟩
      · exact ⟨_, rfl, bad (.oth .int_tuple)⟩
      · exact ⟨_, rfl, bad (.oth .non_tuple)⟩
      · exact ⟨_, rfl, bad (.oth .str_tuple)⟩
      · exact ⟨_, rfl, bad (.oth (.lst_tuple (SqL.of g3)))⟩
      · exact ⟨_, rfl, bad (.len (SqT.of g4) (by decide))⟩
      · exact ⟨_, rfl, bad (.len (SqT.of g5) (by decide))⟩
      · exact ⟨_, rfl, bad (.tru (SqT.of g6))⟩
      · exact ⟨_, rfl, bad (am_no (SqT.of g7) (.inr (.inl (by decide))))⟩
    obtain ⟨u, hat, q⟩ := goal _ t g0 g1 g2 g3 g4 g5 g6 g7
    exact ⟨_, rfl, _, rfl, z8, _, wy, u, rfl, rfl, SqL.of upd_same, hat, q⟩
end
end K36

namespace K36
open PySem PySem.Spec PyProof.Rows L2 GM TM TR
theorem cut_from2 (x : Str) (u : V) (us : List V) : cutV (V.str x :: u :: us) (some 2) none = us := by
  have := cut_from (xs := V.str x :: u :: us) (j := 2) (by simp)
  simpa using this
theorem ph_any {K : PySem.W.Frag} {H : Hp} {nb : Nat} (far : Int) (n1 : 1 ≤ nb) : KindV K H nb "phial" (.int (far % (nb : Int))) true := by
  obtain ⟨h0, h1⟩ := emod_in far (m := (nb : Int)) (by omega)
  exact ph_true h0 h1
theorem half_part {K : PySem.W.Frag} {H : Hp} {nb : Nat} {q : Addr} (h : H q = some (.tup [.int 1, .int 2])) : KindV K H nb "part" (.ref q) true := KindV.pa (nb := nb) (t := 1) (b := 2) ⟨SqT.of h, by decide, by decide, by decide +kernel⟩
theorem half_lv {K : PySem.W.Frag} {H : Hp} {nb : Nat} {q : Addr} (h : H q = some (.tup [.int 1, .int 2])) : KindV K H nb "level" (.ref q) true := KindV.lv (nb := nb) (t := 1) (b := 2) ⟨SqT.of h, by decide, by decide, by decide +kernel⟩
theorem ware_no {K : PySem.W.Frag} {H : Hp} {nb : Nat} {x : Str} (l : x.length ≤ 1000) (n : decide (Wr x) = false) : KindV K H nb "ware" (.str x) false := by
  have := KindV.wa (K := K) (H := H) (nb := nb) l
  rw [n] at this
  exact this
theorem cut_last1 {xs : List V} (h : xs ≠ []) : cutV xs none (some (-1)) = xs.take (xs.length - 1) := by
  have l : 0 < xs.length := List.length_pos_iff.mpr h
  unfold cutV
  have e1 : HT.sIx xs.length 0 none = 0 := rfl
  have e2 : HT.sIx xs.length xs.length (some (-1)) = xs.length - 1 := by
    unfold HT.sIx
    simp
    omega
  rw [e1, e2]
  simp
section
variable {P : Program} {w : World} {K : PySem.W.Frag} {mg : Str → Option Value} {base : Heap}
theorem scSpoil : FnScope ["_law_bench_here", "_law_row_here", "_law_way", "_law_far", "_law_many"] ["_law_bench_here", "_law_row_here", "_law_way", "_law_far"] (defScope sSpoil) := ⟨rfl, rfl, rfl, by decide +kernel, rfl, by decide +kernel, by decide +kernel⟩
theorem ok_spoil {f : Addr} {fd : FuncData} (F : Fun K "_law_spoiled" "_law_spoiled" sSpoil f fd) (T : Txt mg) (cP : Cal P w K mg base CX0 1 "_law_odd_phial" ["_law_many", "_law_way", "_law_far"] (spOddP K)) (cM : Cal P w K mg base CX0 1 "_law_odd_much" ["_law_way", "_law_far"] (spOddM K)) : FnOk P w K mg base CX0 2 f fd ["_law_bench_here", "_law_row_here", "_law_way", "_law_far"] (spSpoil K) := by
  refine F.ok scSpoil (fun vs H Q E h => ?_) (fun cdv A outer s H vs Q E hr h => ?_)
  · obtain ⟨_, _, _, _, _, rfl, _⟩ := h
    rfl
  · obtain ⟨b, z, nb, wy, far, rfl, bn, n1, n16, gr, w0, w40, f0, k⟩ := h
    refine ⟨_, PSB.h (psb_cons (psx_of (ps_set (i := 4) scSpoil.nd rfl (Or.inl rfl) (pe_callB call_len_seq rfl T.len PySem.boot_len (pa_cons (pit 0 0) pa_nil))))
      (psb_cons (psx_of (ps_if (pt_cmpR op_lt (pv 2) pe_int (nomark _))
        (pss_one (ps_ret (pe_op op_catT (pe_tup (pa_cons (pit 1 0) (pa_cons (pe_cal cP hr rfl pass0 (pa_cons (pv 4) (pa_cons (pv 2) (pa_cons (pv 3) pa_nil)))) pa_nil))) (pe_slice sl_tupA (pv 1) (po_some pe_int) po_none))))
        pss_nil))
      (psb_cons (psx_of (ps_if (pt_cmpR op_lt (pv 2) pe_int (nomark _))
        (pss_one (ps_ret (PEX.h (x_tup (x_c x_str (x_c (x_of (pe_op op_mod (pv 3) (pv 4))) (x_c (x_of (pe_cal cP hr rfl pass0 (pa_cons (pv 4) (pa_cons (pe_op op_sub (pv 2) pe_int) (pa_cons (pv 3) pa_nil))))) (x_c (x_tup (x_c x_int (x_c x_int x_nil))) x_nil))))))))
        pss_nil))
      (psb_cons (psx_of (ps_if (pt_cmpR op_lt (pv 2) pe_int (nomark _))
        (pss_one (ps_ret (PEX.h (x_tup (x_c x_str (x_c (x_of (pe_op op_mod (pv 3) (pv 4))) (x_c x_str (x_c (x_of (pe_cal cM hr rfl pass0 (pa_cons (pe_op op_sub (pv 2) pe_int) (pa_cons (pv 3) pa_nil)))) x_nil))))))))
        pss_nil))
      (psb_cons (psx_of (ps_if (pt_cmpR op_lt (pv 2) pe_int (nomark _))
        (pss_one (ps_ret (PEX.h (x_tup (x_c x_str (x_c (x_of (pe_op op_mod (pv 3) (pv 4))) (x_c (x_of (pe_ix ix_list (PEX.h (x_lst (x_c x_str (x_c x_str (x_c x_str (x_c x_int (x_c x_non (x_c (x_tup (x_c x_str x_nil)) (x_c x_str x_nil))))))))) (pe_op op_sub (pv 2) pe_int) (fun _ _ => rfl))) (x_c (x_tup (x_c x_int (x_c x_int x_nil))) x_nil))))))))
        pss_nil))
      (psb_cons (psx_of (ps_if (pt_cmpR op_eq (pv 2) pe_int (nomark _))
        (pss_one (ps_ret (PEX.h (x_tup (x_c x_str (x_c (x_of (pe_op op_mod (pv 3) (pv 4))) (x_c (x_of (pe_op op_mod (pv 3) (pv 4))) (x_c (x_tup (x_c x_int (x_c x_int x_nil))) x_nil))))))))
        pss_nil))
      (psb_cons (psx_of (ps_if (pt_cmpR op_eq (pv 2) pe_int (nomark _))
        (pss_one (ps_ret (PEX.h (x_tup (x_c x_str (x_c (x_of (pe_op op_mod (pv 3) (pv 4))) (x_c (x_of (pe_op op_mod (pe_op op_add (pv 3) pe_int) (pv 4))) (x_c (x_of (pe_ix ix_list (pe_lst (pa_cons (pe_tup (pa_cons (pe_op op_add pe_int (pv 3)) (pa_cons (pv 3) pa_nil))) (pa_cons (pe_tup (pa_cons pe_int (pa_cons pe_int pa_nil))) pa_nil))) (pe_op op_mod (pv 3) pe_int) (fun _ _ => rfl))) x_nil))))))))
        pss_nil))
      (psb_cons (psx_of (ps_if (pt_cmpR op_eq (pv 2) pe_int (nomark _))
        (pss_one (ps_ret (pe_ix ix_list (PEX.h (x_lst (x_c (x_of (pe_callTy call_list_of rfl T.list' bt_list (pa_cons (pv 1) pa_nil))) (x_c (x_of (pe_slice sl_tupA (pv 1) po_none (po_some (pe_un un_neg pe_int)))) (x_c (x_of (pe_op op_catT (pv 1) (pe_tup (pa_cons pe_int pa_nil)))) (x_c (x_tup x_nil) (x_c x_non (x_c x_str (x_c x_int x_nil))))))))) (pe_op op_mod (pv 3) pe_int) (fun _ _ => rfl))))
        pss_nil))
      (psb_one (psx_of (ps_ret (pe_op op_catT (pe_tup (pa_cons (pe_ix ix_list (PEX.h (x_lst (x_c x_str (x_c x_str (x_c x_str (x_c x_non (x_c x_int x_nil))))))) (pe_op op_mod (pv 3) pe_int) (fun _ _ => rfl)) pa_nil)) (pe_slice sl_tupA (pv 1) (po_some pe_int) po_none))))))))))))), ?_⟩
    obtain ⟨r, q0, rs, hb, hrr, rfl⟩ := id bn
    obtain ⟨wd, u0, us, ks, βs, hz, hf, ek, u2, _, _⟩ := gr.shape (K := K)
    have nbp : (0 : Int) < ((rs.length : Nat) : Int) := by omega
    refine ⟨b, _, _, rfl, SqT.of hb, rfl, r, _, rfl, .inr (SqT.of hrr), ?_⟩
    refine ⟨_, rfl, _, _, rfl, rfl, _, rfl, ite2 (fun c1 => ?_) (fun c1 => ?_)⟩
    · have c1' : wy < 9 := of_decide_eq_true c1
      refine ⟨z, _, _, rfl, SqT.of hz, rfl, _, rfl, _, rfl, _, rfl, rs.length, wy, far, rfl, w0, c1', f0, fun u H1 s1 ku => ⟨(by show 2 ≤ sizeLine; decide), fun t nt => ?_⟩⟩
      have st := Same.upd (o := .tup [.str wd, u]) nt
      have ht : upd H1 t (.tup [.str wd, u]) t = some (.tup [.str wd, u]) := upd_same
      generalize upd H1 t (.tup [.str wd, u]) = H2 at st ht ⊢
      have s02 := s1.trans st
      refine ⟨_, rfl, _, rfl, z, _, rfl, s02 _ _ hz, fun c H3 s3 hc => ?_⟩
      have hc' : H3 c = some (.tup us) := by rw [cut_from2] at hc; exact hc
      have fin : ∀ v H', Same H3 H' → H' v = some (.tup (.str wd :: u :: us)) → Q (.ref v) H' := fun v H' s' hv => k _ H' ((s02.trans s3).trans s') (big_no (βs := false :: βs) hv hf (eachC (ku.keep ((st.trans s3).trans s')) ⟨ek.1, ek.2.1, fun i k u β a b c => (ek.2.2 i k u β a b c).keep ((s02.trans s3).trans s')⟩) rfl)
      refine ⟨t, c, [.str wd, u], us, rfl, rfl, SqT.of (s3 _ _ ht), SqT.of hc', by simp, Nat.le_trans (show 2 + us.length ≤ 10 by omega) (by decide), fun e => ?_, fun e p np => fin p _ (Same.upd np) upd_same⟩
      refine fin t H3 (Same.refl _) ?_
      rw [e]
      exact s3 _ _ ht
    refine ⟨_, rfl, _, _, rfl, rfl, _, rfl, ite2 (fun c2 => ?_) (fun c2 => ?_)⟩
    · have c2' : wy < 18 := of_decide_eq_true c2
      have c1' : ¬ wy < 9 := fun e => c1 (decide_eq_true e)
      refine ⟨_, rfl, _, rfl, _, _, rfl, rfl, nbp, _, rfl, _, rfl, _, _, rfl, rfl, _, rfl, rs.length, wy - 9, far, rfl, by omega, by omega, f0, fun u H1 s1 ku => ⟨(by show 2 ≤ sizeLine; decide), fun q nq => ⟨(by show 4 ≤ sizeLine; decide), fun t nt => ?_⟩⟩⟩
      have sq := Same.upd (o := .tup [.int 1, .int 2]) nq
      have st := Same.upd (o := .tup [.str "pour", .int (far % ((rs.length : Nat) : Int)), u, .ref q]) nt
      exact k _ _ ((s1.trans sq).trans st) (big_no (x := "pour") (ks := ["phial", "phial", "part"]) upd_same (by decide +kernel) (each3 (ph_any far n1) (ku.keep (sq.trans st)) (half_part (st _ _ upd_same))) rfl)
    refine ⟨_, rfl, _, _, rfl, rfl, _, rfl, ite2 (fun c3 => ?_) (fun c3 => ?_)⟩
    · have c3' : wy < 29 := of_decide_eq_true c3
      have c2' : ¬ wy < 18 := fun e => c2 (decide_eq_true e)
      refine ⟨_, rfl, _, rfl, _, _, rfl, rfl, nbp, _, rfl, _, _, rfl, rfl, _, rfl, wy - 18, far, rfl, by omega, by omega, f0, fun u H1 s1 ku => ⟨(by show 4 ≤ sizeLine; decide), fun t nt => ?_⟩⟩
      have st := Same.upd (o := .tup [.str "draw", .int (far % ((rs.length : Nat) : Int)), .str "salt", u]) nt
      exact k _ _ (s1.trans st) (big_no (x := "draw") (ks := ["phial", "ware", "amount"]) upd_same (by decide +kernel) (each3 (ph_any far n1) (wr_true (by decide +kernel)) ((ku rs.length).keep st)) rfl)
    refine ⟨_, rfl, _, _, rfl, rfl, _, rfl, ite2 (fun c4 => ?_) (fun c4 => ?_)⟩
    · have c4' : wy < 36 := of_decide_eq_true c4
      have c3' : ¬ wy < 29 := fun e => c3 (decide_eq_true e)
      refine ⟨_, rfl, _, rfl, _, _, rfl, rfl, nbp, (by show 1 ≤ sizeLine; decide), fun s1 ns1 => ⟨(by show 7 ≤ sizeLine; decide), fun l nl => ?_⟩⟩
      have e1 := Same.upd (o := .tup [.str "salt"]) ns1
      have e2 := Same.upd (o := .lst [.str "", .str "A", .str "abcdefghi", .int 5, .non, .ref s1, .str "sa lt"]) nl
      have hs1 := e2 _ _ (upd_same (H := H) (a := s1) (o := .tup [.str "salt"]))
      have hl := upd_same (H := upd H s1 (.tup [.str "salt"])) (a := l) (o := .lst [.str "", .str "A", .str "abcdefghi", .int 5, .non, .ref s1, .str "sa lt"])
      have s02 := e1.trans e2
      generalize upd (upd H s1 (.tup [.str "salt"])) l (.lst [.str "", .str "A", .str "abcdefghi", .int 5, .non, .ref s1, .str "sa lt"]) = H2 at hs1 hl s02 ⊢
      obtain ⟨u, hat, ku⟩ : ∃ u, atI [V.str "", .str "A", .str "abcdefghi", .int 5, .non, .ref s1, .str "sa lt"] (wy - 29) = some u ∧ KindV K H2 rs.length "ware" u false := by
        have : wy - 29 = 0 ∨ wy - 29 = 1 ∨ wy - 29 = 2 ∨ wy - 29 = 3 ∨ wy - 29 = 4 ∨ wy - 29 = 5 ∨ wy - 29 = 6 := by omega
        rcases this with e | e | e | e | e | e | e <;> rw [e]
        · exact ⟨_, rfl, ware_no (by decide +kernel) (by decide +kernel)⟩
        · exact ⟨_, rfl, ware_no (by decide +kernel) (by decide +kernel)⟩
        · exact ⟨_, rfl, ware_no (by decide +kernel) (by decide +kernel)⟩
        · exact ⟨_, rfl, .wo .int_str⟩
        · exact ⟨_, rfl, .wo .non_str⟩
        · exact ⟨_, rfl, .wo (.tup_str (SqT.of hs1))⟩
        · exact ⟨_, rfl, ware_no (by decide +kernel) (by decide +kernel)⟩
      refine ⟨_, rfl, _, _, rfl, rfl, l, _, wy - 29, u, rfl, rfl, SqL.of hl, hat, (by show 2 ≤ sizeLine; decide), fun q nq => ⟨(by show 4 ≤ sizeLine; decide), fun t nt => ?_⟩⟩
      have sq := Same.upd (o := .tup [.int 1, .int 2]) nq
      have st := Same.upd (o := .tup [.str "fill", .int (far % ((rs.length : Nat) : Int)), u, .ref q]) nt
      exact k _ _ ((s02.trans sq).trans st) (big_no (x := "fill") (ks := ["phial", "ware", "level"]) upd_same (by decide +kernel) (each3 (ph_any far n1) (ku.keep (sq.trans st)) (half_lv (st _ _ upd_same))) rfl)
    refine ⟨_, rfl, rfl, _, rfl, ite2 (fun c5 => ?_) (fun c5 => ?_)⟩
    · refine ⟨_, rfl, _, rfl, _, _, rfl, rfl, nbp, _, rfl, _, rfl, _, _, rfl, rfl, nbp, (by show 2 ≤ sizeLine; decide), fun q nq => ⟨(by show 4 ≤ sizeLine; decide), fun t nt => ?_⟩⟩
      have sq := Same.upd (o := .tup [.int 1, .int 2]) nq
      have st := Same.upd (o := .tup [.str "pour", .int (far % ((rs.length : Nat) : Int)), .int (far % ((rs.length : Nat) : Int)), .ref q]) nt
      refine k _ _ (sq.trans st) (.big (x := "pour") (ks := ["phial", "phial", "part"]) upd_same (by decide +kernel) (each3 (ph_any far n1) (ph_any far n1) (half_part (st _ _ upd_same))) (fun e => by cases e) (fun _ => .inr ⟨rfl, _, _, _, rfl, ?_⟩))
      rw [decide_eq_true rfl]
      rfl
    refine ⟨_, rfl, rfl, _, rfl, ite2 (fun c6 => ?_) (fun c6 => ?_)⟩
    · refine ⟨_, rfl, _, rfl, _, _, rfl, rfl, nbp, _, rfl, _, _, rfl, rfl, _, rfl, _, _, rfl, rfl, nbp, _, rfl, _, _, rfl, rfl, _, rfl, (by show 2 ≤ sizeLine; decide), fun q1 nq1 => ⟨(by show 2 ≤ sizeLine; decide), fun q2 nq2 => ⟨(by show 2 ≤ sizeLine; decide), fun l nl => ?_⟩⟩⟩
      have e1 := Same.upd (o := .tup [.int (1 + far), .int far]) nq1
      have e2 := Same.upd (o := .tup [.int 0, .int 1]) nq2
      have e3 := Same.upd (o := .lst [.ref q1, .ref q2]) nl
      have h1 := (e2.trans e3) _ _ (upd_same (H := H) (a := q1) (o := .tup [.int (1 + far), .int far]))
      have h2 := e3 _ _ (upd_same (H := upd H q1 (.tup [.int (1 + far), .int far])) (a := q2) (o := .tup [.int 0, .int 1]))
      have hl := upd_same (H := upd (upd H q1 (.tup [.int (1 + far), .int far])) q2 (.tup [.int 0, .int 1])) (a := l) (o := .lst [.ref q1, .ref q2])
      have s03 := (e1.trans e2).trans e3
      obtain ⟨m0, m2⟩ := emod_in far (m := 2) (by decide)
      have goal : ∀ H3, Same H H3 → H3 q1 = some (.tup [.int (1 + far), .int far]) → H3 q2 = some (.tup [.int 0, .int 1]) → ∃ u, atI [V.ref q1, .ref q2] (far % 2) = some u ∧ KindV K H3 rs.length "part" u false := fun H3 s3 h1 h2 => by
        have : far % 2 = 0 ∨ far % 2 = 1 := by omega
        rcases this with e | e <;> rw [e]
        · refine ⟨_, rfl, ?_⟩
          by_cases z0 : far = 0
          · subst z0
            exact .am (.inr (.inr rfl)) (am_no (SqT.of h1) (.inr (.inl (by decide))))
          · have := KindV.pa (K := K) (H := H3) (nb := rs.length) (a := q1) (t := 1 + far) (b := far) ⟨SqT.of h1, by omega, by omega, g11 (by omega)⟩
            rw [decide_eq_true (show far < 1 + far by omega)] at this
            simpa using this
        · exact ⟨_, rfl, KindV.pa (nb := rs.length) (t := 0) (b := 1) ⟨SqT.of h2, by decide, by decide, by decide +kernel⟩⟩
      obtain ⟨u, hat, ku⟩ := goal _ s03 h1 h2
      refine ⟨_, rfl, _, _, rfl, rfl, (by show (0 : Int) < 2; decide), l, _, _, u, rfl, rfl, SqL.of hl, hat, (by show 4 ≤ sizeLine; decide), fun t nt => ?_⟩
      have st := Same.upd (o := .tup [.str "pour", .int (far % ((rs.length : Nat) : Int)), .int ((far + 1) % ((rs.length : Nat) : Int)), u]) nt
      exact k _ _ (s03.trans st) (big_no (x := "pour") (ks := ["phial", "phial", "part"]) upd_same (by decide +kernel) (each3 (ph_any far n1) (ph_any (far + 1) n1) (ku.keep st)) rfl)
    refine ⟨_, rfl, rfl, _, rfl, ite2 (fun c7 => ?_) (fun c7 => ?_)⟩
    · refine ⟨_, rfl, z, _, rfl, .inr (SqT.of hz), fun l1 nl1 => ?_⟩
      have e1 := Same.upd (o := .lst (.str wd :: u0 :: us)) nl1
      have h1 : upd H l1 (.lst (.str wd :: u0 :: us)) l1 = some (.lst (.str wd :: u0 :: us)) := upd_same
      generalize upd H l1 (.lst (.str wd :: u0 :: us)) = H1 at e1 h1 ⊢
      refine ⟨_, rfl, _, rfl, _, rfl, z, _, rfl, e1 _ _ hz, fun c2 H2 s2 hc2 => ?_⟩
      rw [cut_last1 (by simp)] at hc2
      have hz2 := (e1.trans s2) _ _ hz
      refine ⟨_, rfl, (by show 1 ≤ sizeLine; decide), fun t0 nt0 => ?_⟩
      have e3 := Same.upd (o := .tup [.int 0]) nt0
      refine ⟨z, t0, _, [.int 0], rfl, rfl, SqT.of (e3 _ _ hz2), SqT.of upd_same, by simp, Nat.le_trans (show us.length + 1 + 1 + 1 ≤ 10 by omega) (by decide), (fun e => by cases e), fun _ t3 nt3 => ?_⟩
      have e4 := Same.upd (o := .tup ((.str wd :: u0 :: us) ++ [.int 0])) nt3
      refine ⟨(by show 0 ≤ sizeLine; decide), fun t4 nt4 => ⟨(by show 7 ≤ sizeLine; decide), fun l nl => ?_⟩⟩
      have e5 := Same.upd (o := .tup []) nt4
      have e6 := Same.upd (o := .lst [.ref l1, .ref c2, .ref t3, .ref t4, .non, .str "empty", .int 7]) nl
      have s26 := ((e3.trans e4).trans e5).trans e6
      have g3 := (e5.trans e6) _ _ (upd_same (a := t3) (o := .tup ((.str wd :: u0 :: us) ++ [.int 0])))
      have g4 := e6 _ _ (upd_same (a := t4) (o := .tup []))
      have sf := (e1.trans s2).trans s26
      obtain ⟨m0, m7⟩ := emod_in far (m := 7) (by decide)
      have kl := ek.1
      have goal : ∀ H3, Same H H3 → H3 l1 = some (.lst (.str wd :: u0 :: us)) → H3 c2 = some (.tup ((.str wd :: u0 :: us).take ((V.str wd :: u0 :: us).length - 1))) → H3 t3 = some (.tup ((.str wd :: u0 :: us) ++ [.int 0])) → H3 t4 = some (.tup []) → ∃ u, atI [V.ref l1, .ref c2, .ref t3, .ref t4, .non, .str "empty", .int 7] (far % 7) = some u ∧ RowE K H3 u := fun H3 s3 h1 h2 h3 h4 => by
        have : far % 7 = 0 ∨ far % 7 = 1 ∨ far % 7 = 2 ∨ far % 7 = 3 ∨ far % 7 = 4 ∨ far % 7 = 5 ∨ far % 7 = 6 := by omega
        rcases this with e | e | e | e | e | e | e <;> rw [e]
        · exact ⟨_, rfl, .notT (.lst_tuple (SqL.of h1))⟩
        · refine ⟨_, rfl, .len (x := wd) (us := (u0 :: us).take us.length) ?_ hf ?_⟩
          · rw [h2]
            rfl
          · rw [List.length_take, List.length_cons, List.length_cons]
            omega
        · refine ⟨_, rfl, .len (x := wd) (us := (u0 :: us) ++ [.int 0]) (by rw [h3]; rfl) hf ?_⟩
          rw [List.length_append, List.length_cons]
          show us.length + 1 + 1 ≠ ks.length + 1
          omega
        · exact ⟨_, rfl, .nil h4⟩
        · exact ⟨_, rfl, .notT .non_tuple⟩
        · exact ⟨_, rfl, .notT .str_tuple⟩
        · exact ⟨_, rfl, .notT .int_tuple⟩
      obtain ⟨u, hat, ru⟩ := goal _ sf ((s2.trans s26) _ _ h1) (s26 _ _ hc2) g3 g4
      exact ⟨_, rfl, _, _, rfl, rfl, (by show (0 : Int) < 7; decide), l, _, _, u, rfl, rfl, SqL.of upd_same, hat, k u _ sf (.early ru)⟩
    · refine ⟨(by show 5 ≤ sizeLine; decide), fun l nl => ?_⟩
      have e1 := Same.upd (o := .lst [.str "pours", .str "Draw", .str "", .non, .int 3]) nl
      have hl : upd H l (.lst [.str "pours", .str "Draw", .str "", .non, .int 3]) l = some (.lst [.str "pours", .str "Draw", .str "", .non, .int 3]) := upd_same
      generalize upd H l (.lst [.str "pours", .str "Draw", .str "", .non, .int 3]) = H1 at e1 hl ⊢
      obtain ⟨m0, m5⟩ := emod_in far (m := 5) (by decide)
      obtain ⟨u, hat, hu⟩ : ∃ u, atI [V.str "pours", .str "Draw", .str "", .non, .int 3] (far % 5) = some u ∧ ((∃ x, u = .str x ∧ frm x = none) ∨ u = .non ∨ u = .int 3) := by
        have : far % 5 = 0 ∨ far % 5 = 1 ∨ far % 5 = 2 ∨ far % 5 = 3 ∨ far % 5 = 4 := by omega
        rcases this with e | e | e | e | e <;> rw [e]
        · exact ⟨_, rfl, .inl ⟨_, rfl, by decide +kernel⟩⟩
        · exact ⟨_, rfl, .inl ⟨_, rfl, by decide +kernel⟩⟩
        · exact ⟨_, rfl, .inl ⟨_, rfl, by decide +kernel⟩⟩
        · exact ⟨_, rfl, .inr (.inl rfl)⟩
        · exact ⟨_, rfl, .inr (.inr rfl)⟩
      refine ⟨_, rfl, _, _, rfl, rfl, (by show (0 : Int) < 5; decide), l, _, _, u, rfl, rfl, SqL.of hl, hat, (by show 1 ≤ sizeLine; decide), fun t nt => ?_⟩
      have e2 := Same.upd (o := .tup [u]) nt
      have ht : upd H1 t (.tup [u]) t = some (.tup [u]) := upd_same
      generalize upd H1 t (.tup [u]) = H2 at e2 ht ⊢
      have s02 := e1.trans e2
      refine ⟨_, rfl, _, rfl, z, _, rfl, s02 _ _ hz, fun c H3 s3 hc => ?_⟩
      have hc' : H3 c = some (.tup (u0 :: us)) := by rw [cut_from1] at hc; exact hc
      refine ⟨t, c, [u], u0 :: us, rfl, rfl, SqT.of (s3 _ _ ht), SqT.of hc', by simp, Nat.le_trans (show 1 + (us.length + 1) ≤ 10 by omega) (by decide), (fun e => by cases e), fun _ p np => ?_⟩
      refine k _ _ ((s02.trans s3).trans (Same.upd np)) (.early ?_)
      rcases hu with ⟨x, rfl, hx⟩ | rfl | rfl
      · exact .word upd_same hx
      · exact .head upd_same .non_str
      · exact .head upd_same .int_str
end
end K36

namespace K36
open PySem PySem.Spec PyProof.Rows L2 GM TM TR
theorem passG0 {P : Program} {w : World} {X : Cx} : Passes (CXg P w) X E0 := fun _ _ _ _ _ _ _ h => by
  obtain ⟨_, _, _, _, _, _, h⟩ := h
  exact h.elim
def spKind (c : Addr) : Sp := fun vs H Q _ => ∃ a dd, vs = [.ref a] ∧ H a = some (excD a c dd) ∧ ∀ l H', Same H H' → H' l = some (.lst [.str "none"]) → Q (.ref l) H'
def spRefused (c : Addr) : Sp := fun vs H Q _ => ∃ (a z dx : Addr) (n : Nat), vs = [.ref a, .ref z, .int (n : Nat)] ∧ H a = some (excD a c (some dx)) ∧ H dx = some (xdE dx [("place", .int (n : Nat))]) ∧ H z = some (.tup [.str "none", .int 0]) ∧ ∀ H', Same H H' → Q (.bl true) H'
def spErr (K : PySem.W.Frag) (c : Addr) : Sp := fun vs H Q _ => ∃ (wy : Int) (b ph : Addr) (nb m : Nat) (us : List V) (v : V), vs = [.int wy, .ref b, .ref ph, v, .int (m : Nat)] ∧ 0 ≤ wy ∧ wy < 4 ∧ BnV H b nb ∧ 1 ≤ nb ∧ PhV H ph us ∧ RowV K H nb v false ∧ m < 10 ∧ ∀ e dx n H', Same H H' → H' e = some (excD e c (some dx)) → H' dx = some (xdE dx [("place", .int (n : Nat))]) → n = (if wy < 2 then 0 else m) → Q (.ref e) H'
theorem rep_flat {m : Nat} {x : V} : (List.replicate m [x]).flatten = List.replicate m x := by
  induction m with
  | zero => rfl
  | succ m ih => rw [List.replicate_succ, List.flatten_cons, ih, List.replicate_succ]; rfl
/-- rinses of the first phial and a row behind them -/
theorem rws_mk {K : PySem.W.Frag} {H : Hp} {nb m : Nat} {a l : Addr} {v : V} (ha : H a = some (.tup [.str "rinse", .int 0])) (rv : RowV K H nb v false) (m9 : m < 10) (hl : H l = some (.lst (List.replicate m (.ref a) ++ [v]))) : Rws K H nb l m (List.replicate m (.ref a) ++ [v]) := by
  refine ⟨hl, by rw [List.length_append, List.length_replicate]; rfl, m9, fun i u hu => ?_⟩
  by_cases h : i < m
  · rw [List.getElem?_append_left (by rw [List.length_replicate]; exact h), List.getElem?_replicate, if_pos h] at hu
    cases hu
    exact .inr ⟨decide_eq_true h, a, rfl, ha⟩
  · have il := (List.getElem?_eq_some_iff.mp hu).1
    rw [List.length_append, List.length_replicate] at il
    have il' : i < m + 1 := il
    have ei : i = m := by omega
    subst ei
    rw [List.getElem?_append_right (by rw [List.length_replicate]; exact Nat.le_refl _), List.length_replicate, Nat.sub_self] at hu
    obtain rfl : v = u := by simpa using hu
    exact .inl ⟨decide_eq_false h, rv⟩
section
variable {P : Program} {w : World} {K : PySem.W.Frag} {mg : Str → Option Value} {base : Heap} {cP c0 c1 c2 c3 c4 c5 fI CD CF CP CE CR : Addr}
theorem scWhole : FnScope ["_law_found"] ["_law_found"] (defScope sWhole) := ⟨rfl, rfl, rfl, by decide +kernel, rfl, by decide +kernel, by decide +kernel⟩
theorem ok_whole {f : Addr} {fd : FuncData} (F : Fun K "_law_whole" "_law_whole" sWhole f fd) (T : Txt mg) : FnOk P w K mg base CX0 1 f fd ["_law_found"] (spWh K) := by
  refine F.ok scWhole (fun vs H Q E h => ?_) (fun cdv A outer s H vs Q E hr h => ?_)
  · obtain ⟨_, _, rfl, _⟩ := h
    rfl
  · obtain ⟨v, β, rfl, h, k⟩ := h
    refine ⟨_, pss_one (ps_ret (pe_and (pe_callB call_isi rfl T.isi boot_isinstance (pa_cons (pv 0) (pa_cons (pe_bltn (v := .ty "int") rfl T.int' bt_int rfl) pa_nil)))
      (pe_one (pe_not (pe_callB call_isi rfl T.isi boot_isinstance (pa_cons (pv 0) (pa_cons (pe_bltn (v := .ty "bool") rfl T.bool' bt_bool rfl) pa_nil))))))), ?_⟩
    cases h with
    | int => exact ⟨_, rfl, _, "int", true, rfl, .int_int, _, rfl, iteT ⟨_, rfl, _, "bool", false, rfl, .int_bool, _, rfl, k⟩⟩
    | bl => exact ⟨_, rfl, _, "int", true, rfl, .bl_int, _, rfl, iteT ⟨_, rfl, _, "bool", true, rfl, .bl_bool, _, rfl, k⟩⟩
    | oth h => exact ⟨_, rfl, _, "int", false, rfl, h, _, rfl, iteF k⟩
theorem scKind : FnScope ["_law_error_here", "_law_found"] ["_law_error_here"] (defScope sKind) := ⟨rfl, rfl, rfl, by decide +kernel, rfl, by decide +kernel, by decide +kernel⟩
theorem ok_kind {f : Addr} {fd : FuncData} (F : Fun K "_law_kind" "_law_kind" sKind f fd) (T : Txt mg) (R : ErD K mg cP c0 c1 c2 c3 c4 c5 fI) : FnOk P w K mg base CX0 1 f fd ["_law_error_here"] (spKind c5) := by
  refine F.ok scKind (fun vs H Q E h => ?_) (fun cdv A outer s H vs Q E hr h => ?_)
  · obtain ⟨_, _, rfl, _⟩ := h
    rfl
  · obtain ⟨a, dd, rfl, ha, k⟩ := h
    refine ⟨_, (pss_cons (ps_set (i := 1) scKind.nd rfl (Or.inl rfl) (pe_lst pa_nil))
      (pss_cons (ps_if (pt_val (pe_callB call_isiY rfl T.isi boot_isinstance (pa_cons (pv 0) (pa_cons (pe_glob (v := .ref c0) rfl R.m0 rfl) pa_nil)))) pss_no pss_nil)
      (pss_cons (ps_if (pt_val (pe_callB call_isiY rfl T.isi boot_isinstance (pa_cons (pv 0) (pa_cons (pe_glob (v := .ref c1) rfl R.m1 rfl) pa_nil)))) pss_no pss_nil)
      (pss_cons (ps_if (pt_val (pe_callB call_isiY rfl T.isi boot_isinstance (pa_cons (pv 0) (pa_cons (pe_glob (v := .ref c2) rfl R.m2 rfl) pa_nil)))) pss_no pss_nil)
      (pss_cons (ps_if (pt_val (pe_callB call_isiY rfl T.isi boot_isinstance (pa_cons (pv 0) (pa_cons (pe_glob (v := .ref c3) rfl R.m3 rfl) pa_nil)))) pss_no pss_nil)
      (pss_cons (ps_if (pt_val (pe_callB call_isiY rfl T.isi boot_isinstance (pa_cons (pv 0) (pa_cons (pe_glob (v := .ref c4) rfl R.m4 rfl) pa_nil)))) pss_no pss_nil)
      (pss_cons (ps_if (pt_val (pe_callB call_isiY rfl T.isi boot_isinstance (pa_cons (pv 0) (pa_cons (pe_glob (v := .ref c5) rfl R.m5 rfl) pa_nil))))
        (pss_one (ps_expr (pe_bm PySem.F.plainAttrs_list PySem.F.slot_list_append PySem.F.type_list_append mt_append (pv 1) (pa_cons pe_str pa_nil))))
        pss_nil)
      (pss_one (ps_ret (pv 1)))))))))), ?_⟩
    refine ⟨(by show 0 ≤ sizeLine; decide), fun l nl => ?_⟩
    have sl := Same.upd (o := .lst []) nl
    have hl : upd H l (.lst []) l = some (.lst []) := upd_same
    have nl0 := nl
    generalize upd H l (.lst []) = H1 at sl hl ⊢
    have h1 := sl _ _ ha
    refine ⟨_, rfl, a, c5, dd, .ref c0, .ref c0, false, rfl, h1, R.ef.i.k, rfl, R.i0, _, rfl, iteF ?_⟩
    refine ⟨_, rfl, a, c5, dd, .ref c1, .ref c1, false, rfl, h1, R.ef.i.k, rfl, R.i1, _, rfl, iteF ?_⟩
    refine ⟨_, rfl, a, c5, dd, .ref c2, .ref c2, false, rfl, h1, R.ef.i.k, rfl, R.i2, _, rfl, iteF ?_⟩
    refine ⟨_, rfl, a, c5, dd, .ref c3, .ref c3, false, rfl, h1, R.ef.i.k, rfl, R.i3, _, rfl, iteF ?_⟩
    refine ⟨_, rfl, a, c5, dd, .ref c4, .ref c4, false, rfl, h1, R.ef.i.k, rfl, R.i4, _, rfl, iteF ?_⟩
    refine ⟨_, rfl, a, c5, dd, .ref c5, .ref c5, true, rfl, h1, R.ef.i.k, rfl, R.i5, _, rfl, iteT ?_⟩
    refine ⟨_, rfl, .inl ⟨rfl, _, SqL.of hl⟩, l, _, _, rfl, rfl, hl, small1000 (by show 0 ≤ 1000; decide), ?_⟩
    exact ⟨_, rfl, k l _ (fun b o e => by rw [upd_ne (ne_of_none e nl0)]; exact sl _ _ e) upd_same⟩
theorem scRefused : FnScope ["_law_error_here", "_law_due", "_law_place"] ["_law_error_here", "_law_due", "_law_place"] (defScope sRefused) := ⟨rfl, rfl, rfl, by decide +kernel, rfl, by decide +kernel, by decide +kernel⟩
theorem ok_refused {f : Addr} {fd : FuncData} (F : Fun K "_law_refused" "_law_refused" sRefused f fd) (T : Txt mg) (R : ErD K mg cP c0 c1 c2 c3 c4 c5 fI) (cK : Cal P w K mg base CX0 1 "_law_kind" ["_law_error_here"] (spKind c5)) (cW : Cal P w K mg base CX0 1 "_law_whole" ["_law_found"] (spWh K)) : FnOk P w K mg base CX0 2 f fd ["_law_error_here", "_law_due", "_law_place"] (spRefused c5) := by
  refine F.ok scRefused (fun vs H Q E h => ?_) (fun cdv A outer s H vs Q E hr h => ?_)
  · obtain ⟨_, _, _, _, rfl, _⟩ := h
    rfl
  · obtain ⟨a, z, dx, n, rfl, ha, hdx, hz, k⟩ := h
    refine ⟨_, (pss_cons (ps_if (PW.pt (pw_or (pt_not (pt_val (pe_callB call_isiY rfl T.isi boot_isinstance (pa_cons (pv 0) (pa_cons (pe_bltn (v := .ty "ValueError") rfl T.val bt_val rfl) pa_nil))))) (pw_or1 (pt_cmpR (op_neLs hr.units) (pe_cal cK hr rfl pass0 (pa_cons (pv 0) pa_nil)) (pe_lst (pa_cons (pit 1 0) pa_nil)) (nomark _)))))
        (pss_one (ps_ret pe_bl))
        pss_nil)
      (pss_cons (ps_if (PW.pt (pw_or (pt_not (pt_val (pe_cal cW hr rfl pass0 (pa_cons (pe_exf (pv 0) rfl) pa_nil)))) (pw_or1 (pt_cmpR op_ne (pe_exf (pv 0) rfl) (pv 2) (nomark _)))))
        (pss_one (ps_ret pe_bl))
        pss_nil)
      (pss_cons (ps_if (pt_cmpR op_eq (pit 1 0) pe_str (nomark _))
        (pss_one (ps_ret pe_bl))
        pss_nil)
      pss_no))), ?_⟩
    refine ⟨_, rfl, a, c5, some dx, .type "ValueError", .ty "ValueError", true, rfl, ha, R.ef.i.k, rfl, R.iV, _, rfl, iteF ?_⟩
    refine ⟨_, rfl, a, some dx, rfl, ha, fun l H1 s1 hl => ?_⟩
    refine ⟨z, _, _, rfl, SqT.of (s1 _ _ hz), rfl, (by show 1 ≤ sizeLine; decide), fun l2 n2 => ?_⟩
    have s2 := Same.upd (o := .lst [.str "none"]) n2
    have h2 : upd H1 l2 (.lst [.str "none"]) l2 = some (.lst [.str "none"]) := upd_same
    generalize upd H1 l2 (.lst [.str "none"]) = H2 at s2 h2 ⊢
    have s02 := s1.trans s2
    refine ⟨l, l2, _, rfl, rfl, SqL.of (s2 _ _ hl), SqL.of h2, fun v hv => by rw [List.mem_singleton.mp hv]; exact .inl rfl, _, rfl, iteF ?_⟩
    have ha2 := s02 _ _ ha
    have hx2 := s02 _ _ hdx
    refine ⟨_, rfl, a, c5, cP, fI, dx, _, .int (n : Nat), rfl, ha2, hx2, R.ef, rfl, _, true, rfl, .int, _, rfl, iteF ⟨_, rfl, a, c5, cP, fI, dx, _, .int (n : Nat), rfl, ha2, hx2, R.ef, rfl, _, rfl, rfl, _, rfl, ite2 (fun hc => by simp at hc) (fun _ => ?_)⟩⟩
    exact ⟨z, _, _, rfl, SqT.of (s02 _ _ hz), rfl, rfl, _, rfl, iteT (k H2 s02)⟩
abbrev Nerr : List Str := ["_law_way", "_law_bench_here", "_law_state", "_law_row_here", "_law_ahead", "_law_error_here", "e"]
theorem scErr : FnScope Nerr ["_law_way", "_law_bench_here", "_law_state", "_law_row_here", "_law_ahead"] (defScope sErr) := ⟨rfl, rfl, rfl, by decide +kernel, rfl, by decide +kernel, by decide +kernel⟩
theorem ok_err {f : Addr} {fd : FuncData} (F : Fun K "_law_error" "_law_error" sErr f fd) (R : ErD K mg cP c0 c1 c2 c3 c4 c5 fI) (cD : Cal P w K mg base (CXg P w) 8 "done" ["bench", "phials", "row"] (spDone K c5)) (cO : Cal P w K mg base (CXg P w) 8 "deed_of" ["bench", "row"] (spDeedOf K c5 CD CF CP CE CR)) (cW : Cal P w K mg base (CXg P w) 8 "walked" ["bench", "phials", "rows"] (spWalk K c5)) (cS : Cal P w K mg base (CXg P w) 8 "spoilt" ["bench", "phials", "rows"] (spWalk K c5)) : FnOk P w K mg base CX0 9 f fd ["_law_way", "_law_bench_here", "_law_state", "_law_row_here", "_law_ahead"] (spErr K c5) := by
  refine F.ok scErr (fun vs H Q E h => ?_) (fun cdv A outer s H vs Q E hr h => ?_)
  · obtain ⟨_, _, _, _, _, _, _, rfl, _⟩ := h
    rfl
  · obtain ⟨wy, b, ph, nb, m, us, v, rfl, w0, w4, bn, n1, pv', rv, m9, k⟩ := h
    refine ⟨_, (pss_cons (ps_set (i := 5) scErr.nd rfl (Or.inl rfl) pe_non)
      (pss_cons (ps_tryS (i := 6) (j := 5) ⟨rfl, rfl, rfl⟩ rfl R.mP R.ct scErr.nd rfl rfl rfl rfl (by decide) (fun pins E' σ Ec hp =>
        pss_one (ps_if (pt_cmpR op_eq (pv 0) pe_int (nomark _))
          (pss_one (ps_expr (pe_calS cD hr rfl hp (pa_cons (pv 1) (pa_cons (pv 2) (pa_cons (pv 3) pa_nil))))))
          (pss_one (ps_if (pt_cmpR op_eq (pv 0) pe_int (nomark _))
            (pss_one (ps_expr (pe_calS cO hr rfl hp (pa_cons (pv 1) (pa_cons (pv 3) pa_nil)))))
            (pss_one (ps_if (pt_cmpR op_eq (pv 0) pe_int (nomark _))
              (pss_one (ps_expr (pe_calS cW hr rfl hp (pa_cons (pv 1) (pa_cons (pv 2) (pa_cons (pe_op op_cat (pe_op op_rep (pe_lst (pa_cons (pe_tup (pa_cons pe_str (pa_cons pe_int pa_nil))) pa_nil)) (pv 4)) (pe_lst (pa_cons (pv 3) pa_nil))) pa_nil))))))
              (pss_one (ps_expr (pe_calS cS hr rfl hp (pa_cons (pv 1) (pa_cons (pv 2) (pa_cons (pe_op op_cat (pe_op op_rep (pe_lst (pa_cons (pe_tup (pa_cons pe_str (pa_cons pe_int pa_nil))) pa_nil)) (pv 4)) (pe_lst (pa_cons (pv 3) pa_nil))) pa_nil)))))))))))))
      (pss_one (ps_ret (pv 5))))), ?_⟩
    have fin : ∀ {n : Nat} {H1 : Hp}, Same H H1 → n = (if wy < 2 then 0 else m) → ∀ dx H', Same H1 H' → H' dx = some (xdE dx [("place", .int (n : Nat))]) → ∀ e, H' e = none → Q (.ref e) (upd H' e (excD e c5 (some dx))) := fun {n H1} s1 en dx H' s' hdx e ne => k e dx n _ ((s1.trans s').trans (Same.upd ne)) upd_same (Same.upd ne _ _ hdx) en
    have m63 : ((m : Nat) : Int) < 2 ^ 63 := by have : (2 : Int) ^ 63 = 9223372036854775808 := by decide
                                                omega
    have : wy = 0 ∨ wy = 1 ∨ wy = 2 ∨ wy = 3 := by omega
    rcases this with rfl | rfl | rfl | rfl
    · refine ⟨_, rfl, rfl, _, rfl, iteT ⟨rfl, _, rfl, _, rfl, _, rfl, b, nb, ph, us, v, false, rfl, bn, n1, pv', .inl ⟨rfl, rv⟩, (fun e => by cases e), fun _ dx H1 s1 hdx => ⟨c5, rfl, R.ef.i.k, R.s, fun e he => ⟨_, rfl, fin (n := 0) (Same.refl _) rfl dx H1 s1 hdx e he⟩⟩⟩⟩
    · refine ⟨_, rfl, rfl, _, rfl, iteF ⟨_, rfl, rfl, _, rfl, iteT ⟨rfl, _, rfl, _, rfl, b, nb, v, false, rfl, bn, rv, (fun e => by cases e), fun _ dx H1 s1 hdx => ⟨c5, rfl, R.ef.i.k, R.s, fun e he => ⟨_, rfl, fin (n := 0) (Same.refl _) rfl dx H1 s1 hdx e he⟩⟩⟩⟩⟩
    · refine ⟨_, rfl, rfl, _, rfl, iteF ⟨_, rfl, rfl, _, rfl, iteF ⟨_, rfl, rfl, _, rfl, iteT ⟨rfl, _, rfl, _, rfl, (by show 2 ≤ sizeLine; decide), fun a0 na0 => ⟨(by show 1 ≤ sizeLine; decide), fun l0 nl0 => ?_⟩⟩⟩⟩⟩
      have e1 := Same.upd (o := .tup [.str "rinse", .int 0]) na0
      have e2 := Same.upd (o := .lst [.ref a0]) nl0
      refine ⟨_, rfl, l0, _, [.ref a0], rfl, rfl, upd_same, by omega, m63, by rw [Int.toNat_natCast]; exact Nat.le_trans (show 1 * m ≤ 10 by omega) (by decide), fun l1 nl1 => ?_⟩
      have e3 := Same.upd (o := .lst (List.replicate ((m : Nat) : Int).toNat [V.ref a0]).flatten) nl1
      refine ⟨_, rfl, (by show 1 ≤ sizeLine; decide), fun l2 nl2 => ?_⟩
      have e4 := Same.upd (o := .lst [v]) nl2
      refine ⟨l1, l2, _, _, rfl, rfl, e4 _ _ upd_same, upd_same, by rw [Int.toNat_natCast, rep_flat, List.length_replicate]; exact Nat.le_trans (show m + 1 ≤ 11 by omega) (by decide), fun l3 nl3 => ?_⟩
      have e5 := Same.upd (o := .lst ((List.replicate ((m : Nat) : Int).toNat [V.ref a0]).flatten ++ [v])) nl3
      have t := (((e1.trans e2).trans e3).trans e4).trans e5
      have ga := (((e2.trans e3).trans e4).trans e5) _ _ upd_same
      refine ⟨b, nb, ph, us, l3, m, _, rfl, bn.keep t, n1, pv'.keep t, rws_mk ga (rv.keep t) m9 (by rw [upd_same, Int.toNat_natCast, rep_flat]), fun dx H1 s1 hdx => ⟨c5, rfl, R.ef.i.k, R.s, fun e he => ⟨_, rfl, fin (n := m) t rfl dx H1 s1 hdx e he⟩⟩⟩
    · refine ⟨_, rfl, rfl, _, rfl, iteF ⟨_, rfl, rfl, _, rfl, iteF ⟨_, rfl, rfl, _, rfl, iteF ⟨rfl, _, rfl, _, rfl, (by show 2 ≤ sizeLine; decide), fun a0 na0 => ⟨(by show 1 ≤ sizeLine; decide), fun l0 nl0 => ?_⟩⟩⟩⟩⟩
      have e1 := Same.upd (o := .tup [.str "rinse", .int 0]) na0
      have e2 := Same.upd (o := .lst [.ref a0]) nl0
      refine ⟨_, rfl, l0, _, [.ref a0], rfl, rfl, upd_same, by omega, m63, by rw [Int.toNat_natCast]; exact Nat.le_trans (show 1 * m ≤ 10 by omega) (by decide), fun l1 nl1 => ?_⟩
      have e3 := Same.upd (o := .lst (List.replicate ((m : Nat) : Int).toNat [V.ref a0]).flatten) nl1
      refine ⟨_, rfl, (by show 1 ≤ sizeLine; decide), fun l2 nl2 => ?_⟩
      have e4 := Same.upd (o := .lst [v]) nl2
      refine ⟨l1, l2, _, _, rfl, rfl, e4 _ _ upd_same, upd_same, by rw [Int.toNat_natCast, rep_flat, List.length_replicate]; exact Nat.le_trans (show m + 1 ≤ 11 by omega) (by decide), fun l3 nl3 => ?_⟩
      have e5 := Same.upd (o := .lst ((List.replicate ((m : Nat) : Int).toNat [V.ref a0]).flatten ++ [v])) nl3
      have t := (((e1.trans e2).trans e3).trans e4).trans e5
      have ga := (((e2.trans e3).trans e4).trans e5) _ _ upd_same
      refine ⟨b, nb, ph, us, l3, m, _, rfl, bn.keep t, n1, pv'.keep t, rws_mk ga (rv.keep t) m9 (by rw [upd_same, Int.toNat_natCast, rep_flat]), fun dx H1 s1 hdx => ⟨c5, rfl, R.ef.i.k, R.s, fun e he => ⟨_, rfl, fin (n := m) t rfl dx H1 s1 hdx e he⟩⟩⟩
end
end K36

namespace K36
open PySem PySem.Spec PyProof.Rows L2 GM TM TR
def spLaw (K : PySem.W.Frag) : Sp := fun vs H Q _ => ∃ (a : Addr) (ns : List Int), vs = [.ref a] ∧ SqL K H a (ns.map V.int) ∧ ns.length ≤ 63 ∧ ∀ H', Q (.bl true) H'
/-- the classes of deeds, as isinstance sees them -/
structure DIs (K : PySem.W.Frag) (C cD : Addr) : Prop where
  i : InsK K C
  k : PySem.W.kitOne K (.ref C) (.ref cD) = some true
abbrev toldCs (CD CF CP CE CR : Addr) : List (Addr × Sp) := [(CD, spTold3 CD "draw" "phial" "ware" "amount"), (CF, spTold3 CF "fill" "phial" "ware" "level"), (CP, spTold3 CP "pour" "one" "other" "part"), (CE, spTold1 CE "empty" "phial"), (CR, spTold1 CR "rinse" "phial")]
section
variable {P : Program} {w : World} {K : PySem.W.Frag} {mg : Str → Option Value} {base : Heap} {cP c0 c1 c2 c3 c4 c5 fI CD CF CP CE CR cDd : Addr}
theorem ndRoom : (["_law_room"] : List Str).Nodup := by decide +kernel
abbrev Nlaw : List Str := ["_law_script", "_law_wares_here", "_law_bench_here", "_law_state", "_law_k", "_law_row_here", "_law_number", "_law_left", "_law_odd", "_law_way", "_law_ahead", "_law_error_here", "_law_place", "_law_found"]
theorem scLaw : FnScope Nlaw ["_law_script"] (defScope sLaw) := ⟨rfl, rfl, rfl, by decide +kernel, rfl, by decide +kernel, by decide +kernel⟩
theorem ok_law {f : Addr} {fd : FuncData} (F : Fun K "law" "law" sLaw f fd) (T : Txt mg) (mD : mg "Deed" = some (.ref cDd)) (iD : DIs K CD cDd) (iF : DIs K CF cDd) (iP : DIs K CP cDd) (iE : DIs K CE cDd) (iR : DIs K CR cDd) (hT : ∀ c ∈ toldCs CD CF CP CE CR, Cls K c.1 ∧ MCal P w K mg base CX0 9 c.1 "told" ["self"] c.2)
    (cC : Cal P w K mg base CX0 9 "_law_cell_at" ["_law_script", "_law_k"] (spCell K)) (cM : Cal P w K mg base CX0 9 "_law_mixed" ["_law_cell", "_law_k"] spMixed) (cWs : Cal P w K mg base CX0 9 "_law_wares" ["_law_cell"] spWares) (cB : Cal P w K mg base CX0 9 "_law_bench" ["_law_script", "_law_wares_here"] (spBench K)) (cR : Cal P w K mg base CX0 9 "_law_row" ["_law_bench_here", "_law_wares_here", "_law_script", "_law_k"] (spRow K)) (cF : Cal P w K mg base CX0 9 "_law_free_row" ["_law_bench_here", "_law_wares_here", "_law_left"] spFreeRow) (cS : Cal P w K mg base CX0 9 "_law_spoiled" ["_law_bench_here", "_law_row_here", "_law_way", "_law_far"] (spSpoil K)) (cE : Cal P w K mg base CX0 9 "_law_error" ["_law_way", "_law_bench_here", "_law_state", "_law_row_here", "_law_ahead"] (spErr K c5)) (cRf : Cal P w K mg base CX0 9 "_law_refused" ["_law_error_here", "_law_due", "_law_place"] (spRefused c5)) (cFr : Cal P w K mg base CX0 9 "first_refused" ["bench", "phials", "rows"] (spFirstR K)) (cW : Cal P w K mg base CX0 9 "_law_whole" ["_law_found"] (spWh K)) (cO : Cal P w K mg base (CXg P w) 9 "deed_of" ["bench", "row"] (spDeedOf K c5 CD CF CP CE CR)) : FnOk P w K mg base CX0 10 f fd ["_law_script"] (spLaw K) := by
  refine F.ok scLaw (fun vs H Q E h => ?_) (fun cdv A outer s H vs Q E hr h => ?_)
  · obtain ⟨_, _, rfl, _⟩ := h
    rfl
  · obtain ⟨sc, ns, rfl, hS, hlen, k⟩ := h
    refine ⟨_, (pss_cons (ps_set (i := 1) scLaw.nd rfl (Or.inl rfl) (pe_cal cWs hr rfl pass0 (pa_cons (pe_cal cC hr rfl pass0 (pa_cons (pv 0) (pa_cons pe_int pa_nil))) pa_nil)))
      (pss_cons (ps_set (i := 2) scLaw.nd rfl (Or.inl rfl) (pe_cal cB hr rfl pass0 (pa_cons (pv 0) (pa_cons (pv 1) pa_nil))))
      (pss_cons (ps_comp (iy := 3) (N' := ["_law_room"]) (cl := []) (g := L2.gName 0) (fun _ => [none]) rfl rfl (by decide +kernel) (by decide +kernel) (clOk_plain (by decide +kernel)) (fun _ _ => blkN_none)
        (pi_tup (pit 2 0)) (fun _ _ _ _ _ => pg_name (i := 0) ndRoom rfl (Or.inl rfl) (Or.inr rfl)) (fun _ _ _ _ _ => pifs_nil) (fun _ _ _ _ _ => pe_tup (pa_cons (pe_tup pa_nil) (pa_cons (pe_tup pa_nil) pa_nil))) scLaw.nd rfl (Or.inl rfl) (Or.inr rfl) rfl)
      (pss_cons (ps_for PassesOwn.never rfl (pi_range2 rfl T.range (pa_cons pe_int (pa_cons (pe_callB (call_min2 rfl) rfl T.min' boot_min (pa_cons (pe_callB call_len_seq rfl T.len PySem.boot_len (pa_cons (pv 0) pa_nil)) (pa_cons pe_int pa_nil))) pa_nil))) (pg_name (i := 4) scLaw.nd rfl (Or.inl rfl))
        (pss_cons (ps_set (i := 5) scLaw.nd rfl (Or.inl rfl) (pe_cal cR hr rfl pass0 (pa_cons (pv 2) (pa_cons (pv 1) (pa_cons (pv 0) (pa_cons (pv 4) pa_nil))))))
        (pss_cons (ps_set (i := 6) scLaw.nd rfl (Or.inl rfl) (pe_cal cM hr rfl pass0 (pa_cons (pe_ix ix_list (pv 0) (pv 4) (fun _ _ => rfl)) (pa_cons (pe_op op_add (pv 4) pe_int) pa_nil))))
        (pss_cons (ps_if (pt_cmpR op_eq (pe_op op_mod (pe_cal cC hr rfl pass0 (pa_cons (pv 0) (pa_cons pe_int pa_nil))) pe_int) pe_int (nomark _))
          (pss_cons (ps_set (i := 7) scLaw.nd rfl (Or.inl rfl) (pe_lst (pa_cons (pe_callB call_abs rfl T.abs' bt_abs (pa_cons (pe_ix ix_list (pv 0) (pv 4) (fun _ _ => rfl)) pa_nil)) pa_nil)))
          (pss_cons (ps_set (i := 5) scLaw.nd rfl (Or.inl rfl) (pe_cal cF hr rfl pass0 (pa_cons (pv 2) (pa_cons (pv 1) (pa_cons (pv 7) pa_nil)))))
          (pss_one (ps_set (i := 6) scLaw.nd rfl (Or.inl rfl) (pe_ix ix_list (pv 7) pe_int (fun _ _ => rfl))))))
          pss_nil)
        (pss_one (ps_if (pt_cmpR op_lt (pe_op op_mod (pv 6) pe_int) pe_int (nomark _))
          (pss_cons (ps_set (i := 8) scLaw.nd rfl (Or.inl rfl) (pe_cal cS hr rfl pass0 (pa_cons (pv 2) (pa_cons (pv 5) (pa_cons (pe_op op_mod (pv 6) pe_int) (pa_cons (pe_op op_fdivB (pv 6) pe_int) pa_nil))))))
          (pss_cons (ps_for PassesOwn.never rfl (pi_range1 rfl T.range (pa_cons pe_int pa_nil)) (pg_name (i := 9) scLaw.nd rfl (Or.inl rfl))
            (pss_cons (ps_set (i := 10) scLaw.nd rfl (Or.inl rfl) (pe_op op_mod (pe_op op_fdivB (pv 6) pe_int) pe_int))
            (pss_cons (ps_set (i := 11) scLaw.nd rfl (Or.inl rfl) (pe_cal cE hr rfl pass0 (pa_cons (pv 9) (pa_cons (pv 2) (pa_cons (pv 3) (pa_cons (pv 8) (pa_cons (pv 10) pa_nil)))))))
            (pss_one (ps_if (pt_not (pt_val (pe_cal cRf hr rfl pass0 (pa_cons (pv 11) (pa_cons (pe_tup (pa_cons pe_str (pa_cons pe_int pa_nil))) (pa_cons (pe_ix ix_list (pe_lst (pa_cons pe_int (pa_cons pe_int (pa_cons (pv 10) (pa_cons (pv 10) pa_nil))))) (pv 9) (fun _ _ => rfl)) pa_nil))))))
              (pss_one (ps_ret pe_bl))
              pss_nil)))))
          (pss_cons (ps_set (i := 12) scLaw.nd rfl (Or.inl rfl) (pe_cal cFr hr rfl pass0 (pa_cons (pv 2) (pa_cons (pv 3) (pa_cons (pe_op op_cat (pe_op op_rep (pe_lst (pa_cons (pe_tup (pa_cons pe_str (pa_cons pe_int pa_nil))) pa_nil)) (pv 10)) (pe_lst (pa_cons (pv 8) pa_nil))) pa_nil)))))
          (pss_one (ps_if (PW.pt (pw_or (pt_not (pt_val (pe_cal cW hr rfl pass0 (pa_cons (pv 12) pa_nil)))) (pw_or1 (pt_cmpR op_ne (pv 12) (pv 10) (nomark _)))))
            (pss_one (ps_ret pe_bl))
            pss_nil)))))
          (pss_cons (ps_set (i := 13) scLaw.nd rfl (Or.inl rfl) (pe_cal cO hr rfl passG0 (pa_cons (pv 2) (pa_cons (pv 5) pa_nil))))
          (pss_one (ps_if (PW.pt (pw_or (pt_not (pt_val (pe_callB call_isiI rfl T.isi boot_isinstance (pa_cons (pv 13) (pa_cons (pe_glob (v := .ref cDd) rfl mD rfl) pa_nil))))) (pw_or1 (pt_cmpR (op_neTs hr.units) (pe_mcD hT hr pass0 (pv 13)) (pv 5) (nomark _)))))
            (pss_one (ps_ret pe_bl))
            pss_nil)))))))))
      (pss_one (ps_ret pe_bl)))))), ?_⟩
    refine ⟨_, rfl, sc, ns, 0, rfl, hS, by decide, fun c00 => ⟨c00, rfl, fun ws wl H1 wlen wnd wwr s1 nwl hwl => ?_⟩⟩
    refine ⟨_, rfl, _, rfl, sc, ns, wl, ws, rfl, s1.seq hS, SqL.of hwl, ⟨wlen, wnd, wwr⟩, fun b r q rs us ps H2 s2 bn2 => ?_⟩
    have bn : BnV H2 b rs.length := ⟨r, _, rs, bn2.hp, bn2.hr, rfl⟩
    have n1 := bn2.l1
    have n16 := bn2.l16
    have s02 := s1.trans s2
    refine ⟨b, _, _, rfl, SqT.of bn2.hp, rfl, r, rfl, ⟨_, SqT.of bn2.hr⟩, fun ph nph => ?_⟩
    refine comp_rel (Ys.tup (SqT.of bn2.hr)) (fun _ _ y H' => ∃ z e1 e2, y = .ref z ∧ H' z = some (.tup [.ref e1, e2]) ∧ H' e1 = some (.tup [])) (fun _ _ _ _ _ h t => by obtain ⟨z, e1, e2, a, b, c⟩ := h; exact ⟨z, e1, e2, a, t _ _ b, t _ _ c⟩) nph (by omega) (fun i x H' R hx sm hR => ?_) (fun ys H3 s3 hph yl hy => ?_)
    · refine ⟨(Keep.refl _).set rfl, (by show 0 ≤ sizeLine; decide), fun e1 ne1 => ⟨(by show 0 ≤ sizeLine; decide), fun e2 ne2 => ⟨(by show 2 ≤ sizeLine; decide), fun z nz => ?_⟩⟩⟩
      have t1 := Same.upd (o := .tup []) ne1
      have t2 := Same.upd (o := .tup []) ne2
      have t3 := Same.upd (o := .tup [.ref e1, .ref e2]) nz
      exact hR _ _ ((t1.trans t2).trans t3) ⟨z, e1, _, rfl, upd_same, (t2.trans t3) _ _ upd_same⟩
    have phv : PhV H3 ph ys := ⟨hph, fun u hu => by
      obtain ⟨i, hi⟩ := List.getElem?_of_mem hu
      obtain ⟨x, hx⟩ : ∃ x, rs[i]? = some x := ⟨_, List.getElem?_eq_getElem (by have := (List.getElem?_eq_some_iff.mp hi).1; omega)⟩
      exact hy i x u hx hi, by omega, by omega⟩
    have s03 := s02.trans s3
    have bn3 := bn.keep s3
    have wv3 : WsV H3 wl ws := ⟨(s2.trans s3) _ _ hwl, wlen, wwr⟩
    refine ⟨_, rfl, sc, _, rfl, .inl (s03.seq hS), _, _, rfl, 3, _, rfl, ⟨by decide, by decide, by split <;> omega, by split <;> omega⟩, ?_⟩
    refine for_rangeN (fun i σ H' => ∃ v4 v5 v6 v7 v8 v9 v10 v11 v12 v13 : Option V, σ = [some (.ref sc), some (.ref wl), some (.ref b), some (.ref ph), v4, v5, v6, v7, v8, v9, v10, v11, v12, v13] ∧ Same H3 H') ⟨none, none, none, none, none, none, none, none, none, none, rfl, Same.refl _⟩ ?_ ?_
    rotate_left
    · intro σ H4 hh
      exact k _
    intro i σ H4 D' hN hi hh
    obtain ⟨v4, v5, v6, v7, v8, v9, v10, v11, v12, v13, rfl, s4⟩ := hh
    have ki : 3 + i < ns.length ∧ 3 + i < 63 := by
      have h2 : i < ((if (63 : Int) < (((ns.map V.int).length : Nat) : Int) then 63 else (((ns.map V.int).length : Nat) : Int)) - 3).toNat := hi
      rw [List.length_map] at h2
      split at h2 <;> omega
    have ek : (3 : Int) + (i : Int) = ((3 + i : Nat) : Int) := by omega
    rw [ek]
    obtain ⟨c, hc⟩ : ∃ c, ns[3 + i]? = some c := ⟨_, List.getElem?_eq_getElem ki.1⟩
    have hcat : atI (ns.map V.int) ((3 + i : Nat) : Int) = some (.int c) := atI_nat (by rw [List.getElem?_map, hc]; rfl)
    have s04 := s03.trans s4
    have wv4 : WsV H4 wl ws := ⟨s4 _ _ wv3.1, wv3.2⟩
    refine ⟨_, rfl, _, rfl, _, rfl, _, rfl, b, wl, sc, rs.length, ws, ns, 3 + i, rfl, bn3.keep s4, n1, n16, wv4, s04.seq hS, ki.1, by omega, fun z0 H5 s5 gr0 => ?_⟩
    have s05 := s04.trans s5
    refine ⟨_, rfl, _, rfl, sc, _, _, .int c, rfl, rfl, s05.seq hS, hcat, _, rfl, _, _, rfl, rfl, c, _, rfl, by omega, by omega, fun nm0 nm00 nm0l => ?_⟩
    dsimp only [gName]
    refine seq_nx (fun σ' H' => ∃ (z : Addr) (n : Int) (v7 : Option V), σ' = [some (.ref sc), some (.ref wl), some (.ref b), some (.ref ph), some (.int ((3 + i : Nat) : Int)), some (.ref z), some (.int n), v7, v8, v9, v10, v11, v12, v13] ∧ Same H3 H' ∧ GR H' rs.length z ∧ 0 ≤ n) ?_ (fun N hN2 => ?_)
    rotate_left
    · refine ⟨_, rfl, sc, ns, 0, rfl, s05.seq hS, by decide, fun c01 => ⟨_, _, rfl, rfl, (by show (0 : Int) < 2; decide), rfl, _, rfl, ite2 (fun _ => ?_) (fun _ => ?_)⟩⟩
      · refine ⟨_, rfl, _, rfl, sc, _, _, .int c, rfl, rfl, s05.seq hS, hcat, c, rfl, (by show 1 ≤ sizeLine; decide), fun l nl => ?_⟩
        have c0' := abs_nonneg c
        generalize (if c < 0 then -c else c) = n at *
        have sl := Same.upd (o := .lst [.int n]) nl
        have hl : upd H5 l (.lst [.int n]) l = some (.lst [.int n]) := upd_same
        generalize upd H5 l (.lst [.int n]) = H6 at sl hl ⊢
        refine ⟨_, rfl, _, rfl, _, rfl, b, wl, l, rs.length, ws, rfl, bn3.keep ((s4.trans s5).trans sl), n1, n16, ⟨(s5.trans sl) _ _ wv4.1, wv4.2⟩, ⟨n, hl, c0'⟩, fun z H7 sb lf gr => ?_⟩
        obtain ⟨n', hn', n0'⟩ := lf
        have s57 := same_smb sl sb nl
        exact ⟨_, rfl, l, _, 0, .int n', rfl, rfl, SqL.of hn', rfl, hN2 _ _ ⟨z, n', _, rfl, (s4.trans s5).trans s57, gr, n0'⟩⟩
      · exact hN2 _ _ ⟨z0, nm0, _, rfl, s4.trans s5, gr0, nm00⟩
    intro σ' H' hh
    obtain ⟨z, n, v7', rfl, s6, gr, n0⟩ := hh
    have bn6 := bn3.keep s6
    have ph6 := phv.keep s6
    obtain ⟨m0, m44⟩ := emod_in n (m := 44) (by decide)
    have q0 : 0 ≤ n / 44 := Int.ediv_nonneg n0 (by decide)
    obtain ⟨a0, a4⟩ := emod_in (n / 44) (m := 4) (by decide)
    obtain ⟨m, hm⟩ := Int.eq_ofNat_of_zero_le a0
    have m4 : m < 4 := by omega
    refine ⟨_, rfl, _, _, rfl, rfl, (by show (0 : Int) < 44; decide), _, _, rfl, rfl, _, rfl, ite2 (fun c1 => ?_) (fun c1 => ?_)⟩
    · have c1' : n % 44 < 40 := of_decide_eq_true c1
      refine ⟨_, rfl, _, rfl, _, rfl, _, _, rfl, rfl, (by show (0 : Int) < 44; decide), _, rfl, _, _, rfl, rfl, ⟨by decide, b9⟩, b, z, rs.length, n % 44, n / 44, rfl, bn6, n1, n16, gr, m0, c1', q0, fun v H7 s7 rv => ?_⟩
      have bn7 := bn6.keep s7
      have ph7 := ph6.keep s7
      have s37 := s6.trans s7
      refine ⟨4, rfl, by decide, by decide, ?_⟩
      refine for_rangeN (fun j σ H' => ∃ v9 v10 v11 : Option V, σ = [some (.ref sc), some (.ref wl), some (.ref b), some (.ref ph), some (.int ((3 + i : Nat) : Int)), some (.ref z), some (.int n), v7', some v, v9, v10, v11, v12, v13] ∧ Same H7 H' ∧ (j = 0 ∨ v10 = some (.int (n / 44 % 4)))) ⟨_, _, _, rfl, Same.refl _, .inl rfl⟩ ?_ ?_
      · intro j σ H8 D2 hN3 hj hh
        obtain ⟨v9', v10', v11', rfl, s8, _⟩ := hh
        have hj4 : j < 4 := hj
        refine ⟨_, rfl, _, _, rfl, rfl, ⟨by decide, b9⟩, _, _, rfl, rfl, (by show (0 : Int) < 4; decide), ?_⟩
        refine ⟨_, rfl, _, rfl, _, rfl, _, rfl, _, rfl, 0 + (j : Int), b, ph, rs.length, m, ys, v, congrArg (fun x : Int => [V.int (0 + (j : Int)), .ref b, .ref ph, v, .int x]) hm, by omega, by omega, bn7.keep s8, n1, ph7.keep s8, rv.keep s8, by omega, fun e dx nn H9 s9 he hdx en => ?_⟩
        refine ⟨_, rfl, (by show 2 ≤ sizeLine; decide), fun t nt => ?_⟩
        have st := Same.upd (o := .tup [.str "none", .int 0]) nt
        have ht : upd H9 t (.tup [.str "none", .int 0]) t = some (.tup [.str "none", .int 0]) := upd_same
        generalize upd H9 t (.tup [.str "none", .int 0]) = HA at st ht ⊢
        refine ⟨_, rfl, _, rfl, (by show 4 ≤ sizeLine; decide), fun l4 nl4 => ?_⟩
        have s4' := Same.upd (o := .lst [.int 0, .int 0, .int (n / 44 % 4), .int (n / 44 % 4)]) nl4
        have h4 : upd HA l4 (.lst [.int 0, .int 0, .int (n / 44 % 4), .int (n / 44 % 4)]) l4 = some (.lst [.int 0, .int 0, .int (n / 44 % 4), .int (n / 44 % 4)]) := upd_same
        have hat : atI [V.int 0, .int 0, .int (n / 44 % 4), .int (n / 44 % 4)] (0 + (j : Int)) = some (.int ((nn : Nat) : Int)) := by
          have : j = 0 ∨ j = 1 ∨ j = 2 ∨ j = 3 := by omega
          rcases this with rfl | rfl | rfl | rfl
          · rw [en]; rfl
          · rw [en]; rfl
          · rw [en, hm]; rfl
          · rw [en, hm]; rfl
        have s9A := st.trans s4'
        refine ⟨_, rfl, l4, _, 0 + (j : Int), .int ((nn : Nat) : Int), rfl, rfl, SqL.of h4, hat, e, t, dx, nn, rfl, s9A _ _ he, s9A _ _ hdx, s4' _ _ ht, fun HB sB => ⟨_, rfl, iteF (hN3 _ _ ⟨_, _, _, rfl, ((s8.trans s9).trans s9A).trans sB, .inr rfl⟩)⟩⟩
      · intro σ H8 hh
        obtain ⟨v9', v10', v11', rfl, s8, hv⟩ := hh
        have hv' : v10' = some (.int (n / 44 % 4)) := hv.resolve_left (by decide)
        subst hv'
        refine ⟨_, rfl, _, rfl, (by show 2 ≤ sizeLine; decide), fun r0 nr0 => ⟨(by show 1 ≤ sizeLine; decide), fun l0 nl0 => ?_⟩⟩
        have e1 := Same.upd (o := .tup [.str "rinse", .int 0]) nr0
        have e2 := Same.upd (o := .lst [.ref r0]) nl0
        have hmn : (n / 44 % 4).toNat = m := by rw [hm, Int.toNat_natCast]
        refine ⟨_, rfl, l0, _, [.ref r0], rfl, rfl, upd_same, by omega, Int.lt_of_lt_of_le a4 (by decide), by rw [hmn]; exact Nat.le_trans (show 1 * m ≤ 10 by omega) (by decide), fun l1 nl1 => ?_⟩
        have e3 := Same.upd (o := .lst (List.replicate (n / 44 % 4).toNat [V.ref r0]).flatten) nl1
        refine ⟨_, rfl, (by show 1 ≤ sizeLine; decide), fun l2 nl2 => ?_⟩
        have e4 := Same.upd (o := .lst [v]) nl2
        refine ⟨l1, l2, _, _, rfl, rfl, e4 _ _ upd_same, upd_same, by rw [hmn, rep_flat, List.length_replicate]; exact Nat.le_trans (show m + 1 ≤ 11 by omega) (by decide), fun l3 nl3 => ?_⟩
        have e5 := Same.upd (o := .lst ((List.replicate (n / 44 % 4).toNat [V.ref r0]).flatten ++ [v])) nl3
        have t := (((e1.trans e2).trans e3).trans e4).trans e5
        have ga := (((e2.trans e3).trans e4).trans e5) _ _ upd_same
        refine ⟨b, rs.length, ph, ys, l3, m, _, rfl, bn7.keep (s8.trans t), n1, ph7.keep (s8.trans t), rws_mk ga (rv.keep (s8.trans t)) (by omega) (by rw [upd_same, hmn, rep_flat]), fun H9 s9 => ?_⟩
        refine ⟨_, rfl, _, true, rfl, .int, _, rfl, iteF ⟨_, rfl, _, rfl, rfl, _, rfl, ite2 (fun hc => ?_) (fun _ => hN _ _ ⟨_, _, _, _, _, _, _, _, _, _, rfl, (s37.trans (s8.trans t)).trans s9⟩)⟩⟩
        exfalso
        have hc' : (!decide (V.int ((m : Nat) : Int) = V.int (n / 44 % 4))) = true := hc
        rw [hm, decide_eq_true rfl] at hc'
        cases hc'
    · obtain ⟨_, _, _, _, _, _, _, _, _, rvt, _⟩ := gr.shape (K := K)
      refine ⟨_, rfl, _, rfl, b, rs.length, .ref z, true, rfl, bn6, rvt, fun _ a x us' p dx C fs H7 ev ha s7 np hp dO => ?_, (fun e => by cases e)⟩
      cases ev
      obtain ⟨wd', u0', us2, _, _, hz', _, _, _, _, sf⟩ := gr.shape (K := K)
      rw [ha] at hz'
      have sfa : ∀ u ∈ V.str x :: us', Sf u := by
        cases hz'
        intro u hu
        rcases List.mem_cons.mp hu with rfl | hu
        · exact .inl rfl
        · exact sf u hu
      have fin : ∀ t H8, Same H7 H8 → H8 t = some (.tup (.str x :: us')) → ∃ a b xs, V.ref t = .ref a ∧ V.ref z = .ref b ∧ SqT K H8 a xs ∧ SqT K H8 b xs ∧ (∀ v ∈ xs, Sf v) ∧ True := fun t H8 s8 ht => ⟨t, z, _, rfl, rfl, SqT.of ht, SqT.of ((s7.trans s8) _ _ ha), sfa, trivial⟩
      have ds : DIs K C cDd := by cases dO <;> assumption
      refine ⟨_, rfl, p, C, dx, fs, cDd, true, rfl, hp, ds.i, ds.k, _, rfl, iteF ?_⟩
      cases dO with
      | draw u1 u2 u3 => exact ⟨_, rfl, CD, _, p, dx, _, List.mem_cons_self .., rfl, hp, fs3_no (by decide +kernel) (by decide +kernel) (by decide +kernel), p, dx, u1, u2, u3, rfl, hp, fun t nt => ⟨_, rfl, t, z, _, rfl, rfl, SqT.of upd_same, SqT.of ((s7.trans (Same.upd nt)) _ _ ha), sfa, _, rfl, iteF (hN _ _ ⟨_, _, _, _, _, _, _, _, _, _, rfl, (s6.trans s7).trans (Same.upd nt)⟩)⟩⟩
      | fill u1 u2 u3 => exact ⟨_, rfl, CF, _, p, dx, _, List.mem_cons_of_mem _ (List.mem_cons_self ..), rfl, hp, fs3_no (by decide +kernel) (by decide +kernel) (by decide +kernel), p, dx, u1, u2, u3, rfl, hp, fun t nt => ⟨_, rfl, t, z, _, rfl, rfl, SqT.of upd_same, SqT.of ((s7.trans (Same.upd nt)) _ _ ha), sfa, _, rfl, iteF (hN _ _ ⟨_, _, _, _, _, _, _, _, _, _, rfl, (s6.trans s7).trans (Same.upd nt)⟩)⟩⟩
      | pour u1 u2 u3 => exact ⟨_, rfl, CP, _, p, dx, _, List.mem_cons_of_mem _ (List.mem_cons_of_mem _ (List.mem_cons_self ..)), rfl, hp, fs3_no (by decide +kernel) (by decide +kernel) (by decide +kernel), p, dx, u1, u2, u3, rfl, hp, fun t nt => ⟨_, rfl, t, z, _, rfl, rfl, SqT.of upd_same, SqT.of ((s7.trans (Same.upd nt)) _ _ ha), sfa, _, rfl, iteF (hN _ _ ⟨_, _, _, _, _, _, _, _, _, _, rfl, (s6.trans s7).trans (Same.upd nt)⟩)⟩⟩
      | empty u1 => exact ⟨_, rfl, CE, _, p, dx, _, List.mem_cons_of_mem _ (List.mem_cons_of_mem _ (List.mem_cons_of_mem _ (List.mem_cons_self ..))), rfl, hp, fs1_no (by decide +kernel), p, dx, u1, rfl, hp, fun t nt => ⟨_, rfl, t, z, _, rfl, rfl, SqT.of upd_same, SqT.of ((s7.trans (Same.upd nt)) _ _ ha), sfa, _, rfl, iteF (hN _ _ ⟨_, _, _, _, _, _, _, _, _, _, rfl, (s6.trans s7).trans (Same.upd nt)⟩)⟩⟩
      | rinse u1 => exact ⟨_, rfl, CR, _, p, dx, _, List.mem_cons_of_mem _ (List.mem_cons_of_mem _ (List.mem_cons_of_mem _ (List.mem_cons_of_mem _ (List.mem_cons_self ..)))), rfl, hp, fs1_no (by decide +kernel), p, dx, u1, rfl, hp, fun t nt => ⟨_, rfl, t, z, _, rfl, rfl, SqT.of upd_same, SqT.of ((s7.trans (Same.upd nt)) _ _ ha), sfa, _, rfl, iteF (hN _ _ ⟨_, _, _, _, _, _, _, _, _, _, rfl, (s6.trans s7).trans (Same.upd nt)⟩)⟩⟩
end
end K36

namespace K36
open PySem PySem.Spec PyProof.Rows L2 GM TM TR
/-- a def of the top, by its name -/
structure Dn (K : PySem.W.Frag) (x : Str) (st : Stmt) (ps : List Str) : Prop where
  ex : ∃ (f : Addr) (fd : FuncData), PySem.W.nsIn K mainGlobals x = some (some (.ref f)) ∧ Fun K x x st f fd ∧ Binds K fd ps []
theorem Dn.mk' {K : PySem.W.Frag} {x : Str} {st : Stmt} {ps : List Str} {f : Addr} {oc : Value} {od an : Option Addr} {osl : Array (Option Value)} {kV doc pm cdv ct : Value} (a : PySem.W.nsIn K mainGlobals x = some (some (.ref f)))
    (l : K.lookup f = some ⟨oc, od, .func (PySem.W.fnOf x x (defArgs st) (defBody st) (defScope st) .none kV doc pm an cdv ct), osl⟩) (c : PySem.W.codeIn K cdv x = true) (k : PySem.W.keepIn K (.ref f) = true)
    (hb : ∀ (kV doc pm : Value) (an : Option Addr) (cdv ct : Value) (us : List Value), us.length = ps.length → bindArgs (PySem.W.fnOf x x (defArgs st) (defBody st) (defScope st) .none kV doc pm an cdv ct) ⟨us, []⟩ = pure (ps.zip us)) : Dn K x st ps :=
  ⟨f, _, a, fun_mk (st := st) l c k, (fun_mk (st := st) l c k).binds hb⟩
theorem Dn.cal {P : Program} {w : World} {K : PySem.W.Frag} {mg : Str → Option Value} {base h : Heap} {CX : CXT} {k : Nat} {x : Str} {st : Stmt} {ps : List Str} {sp : Sp} (D : Dn K x st ps) (X : K.In h) (G : h.Ns mainGlobals mg)
    (ok : ∀ {f : Addr} {fd : FuncData}, Fun K x x st f fd → FnOk P w K mg base CX k f fd ps sp) : Cal P w K mg base CX k x ps sp := by
  obtain ⟨f, fd, a, F, b⟩ := D.ex
  exact ⟨f, fd, PySem.W.mg_of X G a, F.kp, b, ok F⟩

structure NouK (K : PySem.W.Frag) (aN : Addr) : Prop where
  m : PySem.W.nsIn K mainGlobals "NOUGHT" = some (some (.ref aN))
  s : ∀ H : Hp, SqT K H aN [.int 0, .int 1]
theorem NouK.mk' {K : PySem.W.Frag} {aN : Addr} {od : Option Addr} {t0 t1 : Tok} {n : Nat} {sl : Array (Option Value)} (a : PySem.W.nsIn K mainGlobals "NOUGHT" = some (some (.ref aN)))
    (l : K.lookup aN = some ⟨.type "tuple", od, .seq #[.int 0 t0, .int 1 t1] n, sl⟩) : ∃ aN : Addr, NouK K aN :=
  ⟨aN, a, fun _ => .inr ⟨_, _, _, l, rfl, rfl, (by show 2 ≤ sizeLine; decide), .cons ⟨_, rfl⟩ (.cons ⟨_, rfl⟩ .nil)⟩⟩
structure OneK (K : PySem.W.Frag) (aO : Addr) : Prop where
  m : PySem.W.nsIn K mainGlobals "ONE" = some (some (.ref aO))
  s : ∀ H : Hp, SqT K H aO [.int 1, .int 1]
theorem OneK.mk' {K : PySem.W.Frag} {aO : Addr} {od : Option Addr} {t0 t1 : Tok} {n : Nat} {sl : Array (Option Value)} (a : PySem.W.nsIn K mainGlobals "ONE" = some (some (.ref aO)))
    (l : K.lookup aO = some ⟨.type "tuple", od, .seq #[.int 1 t0, .int 1 t1] n, sl⟩) : ∃ aO : Addr, OneK K aO :=
  ⟨aO, a, fun _ => .inr ⟨_, _, _, l, rfl, rfl, (by show 2 ≤ sizeLine; decide), .cons ⟨_, rfl⟩ (.cons ⟨_, rfl⟩ .nil)⟩⟩
theorem mst_mk {K : PySem.W.Frag} {tk : Tok} {x : Str} {n : Int} (h : PySem.W.nsIn K mainGlobals x = some (some (.int n tk))) : ∃ tk : Tok, PySem.W.nsIn K mainGlobals x = some (some (.int n tk)) := ⟨_, h⟩
theorem fgs_mk {K : PySem.W.Frag} {tk : Tok} {x y z : Str} (h : PySem.W.nsIn K mainGlobals z = some (some (.str x tk))) (e : x = y) : ∃ tk : Tok, PySem.W.nsIn K mainGlobals z = some (some (.str y tk)) := ⟨_, e ▸ h⟩
/-- a method of the class -/
structure MDn (K : PySem.W.Frag) (C : Addr) (m qual : Str) (st : Stmt) (ps : List Str) : Prop where
  ex : ∃ (f : Addr) (fd : FuncData), Meth K C m f ∧ Fun K m qual st f fd ∧ Binds K fd ps []
theorem MDn.mk' {K : PySem.W.Frag} {C : Addr} {m qual : Str} {st : Stmt} {ps : List Str} {f : Addr} {oc : Value} {od an : Option Addr} {osl : Array (Option Value)} {kV doc pm cdv ct : Value} (a : PySem.W.findIn K (.ref C) m = some (some (.ref f))) (i : PySem.W.isFn K (.ref f) = true)
    (l : K.lookup f = some ⟨oc, od, .func (PySem.W.fnOf m qual (defArgs st) (defBody st) (defScope st) .none kV doc pm an cdv ct), osl⟩) (c : PySem.W.codeIn K cdv qual = true) (k : PySem.W.keepIn K (.ref f) = true)
    (hb : ∀ (kV doc pm : Value) (an : Option Addr) (cdv ct : Value) (us : List Value), us.length = ps.length → bindArgs (PySem.W.fnOf m qual (defArgs st) (defBody st) (defScope st) .none kV doc pm an cdv ct) ⟨us, []⟩ = pure (ps.zip us)) : MDn K C m qual st ps :=
  ⟨f, _, ⟨a, i, k⟩, fun_mk (st := st) l c k, (fun_mk (st := st) l c k).binds hb⟩
theorem MDn.cal {P : Program} {w : World} {K : PySem.W.Frag} {mg : Str → Option Value} {base : Heap} {CX : CXT} {k : Nat} {C : Addr} {m qual : Str} {st : Stmt} {ps : List Str} {sp : Sp} (D : MDn K C m qual st ps) (ok : ∀ {f : Addr} {fd : FuncData}, Fun K m qual st f fd → FnOk P w K mg base CX k f fd ps sp) : MCal P w K mg base CX k C m ps sp := by
  obtain ⟨f, fd, hm, F, b⟩ := D.ex
  exact ⟨f, fd, hm, b, ok F⟩
structure ErDK (K : PySem.W.Frag) (cP c0 c1 c2 c3 c4 c5 fI : Addr) : Prop where
  ef : ExF K c5 cP fI "place"
  ct : CtK K cP
  bi : BaseI K cP
  s : PySem.W.subIn K (.ref c5) (.ref cP) = some true
  iV : PySem.W.kitOne K (.ref c5) (.type "ValueError") = some true
  mP : PySem.W.nsIn K mainGlobals "PhialError" = some (some (.ref cP))
  m0 : PySem.W.nsIn K mainGlobals "Dry" = some (some (.ref c0))
  m1 : PySem.W.nsIn K mainGlobals "Low" = some (some (.ref c1))
  m2 : PySem.W.nsIn K mainGlobals "Wet" = some (some (.ref c2))
  m3 : PySem.W.nsIn K mainGlobals "Spilt" = some (some (.ref c3))
  m4 : PySem.W.nsIn K mainGlobals "Touch" = some (some (.ref c4))
  m5 : PySem.W.nsIn K mainGlobals "NoDeed" = some (some (.ref c5))
  i0 : PySem.W.kitOne K (.ref c5) (.ref c0) = some false
  i1 : PySem.W.kitOne K (.ref c5) (.ref c1) = some false
  i2 : PySem.W.kitOne K (.ref c5) (.ref c2) = some false
  i3 : PySem.W.kitOne K (.ref c5) (.ref c3) = some false
  i4 : PySem.W.kitOne K (.ref c5) (.ref c4) = some false
  i5 : PySem.W.kitOne K (.ref c5) (.ref c5) = some true
  fn : ∃ fd : FuncData, Fun K "__init__" "NoDeed.__init__" sINo fI fd ∧ Binds K fd ["self", "place"] []
theorem ErDK.er {K : PySem.W.Frag} {mg : Str → Option Value} {h : Heap} {cP c0 c1 c2 c3 c4 c5 fI : Addr} (E : ErDK K cP c0 c1 c2 c3 c4 c5 fI) (X : K.In h) (G : h.Ns mainGlobals mg) : ErD K mg cP c0 c1 c2 c3 c4 c5 fI :=
  { ef := E.ef, ct := E.ct, bi := E.bi, s := E.s, iV := E.iV, mP := PySem.W.mg_of X G E.mP, m0 := PySem.W.mg_of X G E.m0, m1 := PySem.W.mg_of X G E.m1, m2 := PySem.W.mg_of X G E.m2, m3 := PySem.W.mg_of X G E.m3, m4 := PySem.W.mg_of X G E.m4, m5 := PySem.W.mg_of X G E.m5, i0 := E.i0, i1 := E.i1, i2 := E.i2, i3 := E.i3, i4 := E.i4, i5 := E.i5 }
theorem fn_mkI {K : PySem.W.Frag} {f : Addr} {oc : Value} {od an : Option Addr} {osl : Array (Option Value)} {kV doc pm cdv ct : Value}
    (l : K.lookup f = some ⟨oc, od, .func (PySem.W.fnOf "__init__" "NoDeed.__init__" (defArgs sINo) (defBody sINo) (defScope sINo) .none kV doc pm an cdv ct), osl⟩) (c : PySem.W.codeIn K cdv "NoDeed.__init__" = true) (k : PySem.W.keepIn K (.ref f) = true) :
    ∃ fd : FuncData, Fun K "__init__" "NoDeed.__init__" sINo f fd ∧ Binds K fd ["self", "place"] [] :=
  ⟨_, fun_mk (st := sINo) l c k, (fun_mk (st := sINo) l c k).binds fun _ _ _ _ _ _ us hl => match us, hl with | [_, _], _ => rfl⟩
theorem err_mk {K : PySem.W.Frag} {cP c0 c1 c2 c3 c4 c5 fI : Addr} {od : Option Addr} {cd : ClassData} {sl : Array (Option Value)}
    (mP : PySem.W.nsIn K mainGlobals "PhialError" = some (some (.ref cP)))
    (m0 : PySem.W.nsIn K mainGlobals "Dry" = some (some (.ref c0)))
    (m1 : PySem.W.nsIn K mainGlobals "Low" = some (some (.ref c1)))
    (m2 : PySem.W.nsIn K mainGlobals "Wet" = some (some (.ref c2)))
    (m3 : PySem.W.nsIn K mainGlobals "Spilt" = some (some (.ref c3)))
    (m4 : PySem.W.nsIn K mainGlobals "Touch" = some (some (.ref c4)))
    (m5 : PySem.W.nsIn K mainGlobals "NoDeed" = some (some (.ref c5)))
    (_lk : K.lookup c5 = some ⟨.type "type", od, .cls cd, sl⟩) (_ni : PySem.W.nsIn K cd.ns "__init__" = some (some (.ref fI)))
    (ef : ExF K c5 cP fI "place")
    (ct : CtK K cP)
    (bi : BaseI K cP)
    (s : PySem.W.subIn K (.ref c5) (.ref cP) = some true)
    (iV : PySem.W.kitOne K (.ref c5) (.type "ValueError") = some true)
    (i0 : PySem.W.kitOne K (.ref c5) (.ref c0) = some false)
    (i1 : PySem.W.kitOne K (.ref c5) (.ref c1) = some false)
    (i2 : PySem.W.kitOne K (.ref c5) (.ref c2) = some false)
    (i3 : PySem.W.kitOne K (.ref c5) (.ref c3) = some false)
    (i4 : PySem.W.kitOne K (.ref c5) (.ref c4) = some false)
    (i5 : PySem.W.kitOne K (.ref c5) (.ref c5) = some true)
    (fn : ∃ fd : FuncData, Fun K "__init__" "NoDeed.__init__" sINo fI fd ∧ Binds K fd ["self", "place"] [])
    : ∃ cP c0 c1 c2 c3 c4 c5 fI : Addr, ErDK K cP c0 c1 c2 c3 c4 c5 fI :=
  ⟨_, _, _, _, _, _, _, _, { ef := ef, ct := ct, bi := bi, s := s, iV := iV, mP := mP, m0 := m0, m1 := m1, m2 := m2, m3 := m3, m4 := m4, m5 := m5, i0 := i0, i1 := i1, i2 := i2, i3 := i3, i4 := i4, i5 := i5, fn := fn }⟩
def frmA (f0 f1 f2 f3 f4 : Addr) (x : Str) : Option Addr := if x = "draw" then some f0 else if x = "fill" then some f1 else if x = "pour" then some f2 else if x = "empty" then some f3 else if x = "rinse" then some f4 else none
structure FormsW (w : World) (K : PySem.W.Frag) (aF : Addr) (f : Str → Option Addr) : Prop where
  d : KDict w K aF f
  m : PySem.W.nsIn K mainGlobals "FORMS" = some (some (.ref aF))
  y : ∀ x ks, frm x = some ks → ∃ a, f x = some a ∧ ∀ H : Hp, SqT K H a (ks.map V.str)
  n : ∀ x, frm x = none → f x = none
theorem beqS (a b : Str) : (a == b) = decide (b = a) := by
  by_cases h : b = a
  · subst h
    rw [decide_eq_true rfl, beq_self_eq_true]
  · rw [decide_eq_false h, beq_eq_false_iff_ne]
    exact Ne.symm h
theorem find5 {a1 a2 a3 a4 a5 : Str} {t1 t2 t3 t4 t5 : Tok} {h1 h2 h3 h4 h5 : Int} {v1 v2 v3 v4 v5 : Addr} (x : Str) : findBy Value.isStrOf #[⟨h1, .str a1 t1, .ref v1⟩, ⟨h2, .str a2 t2, .ref v2⟩, ⟨h3, .str a3 t3, .ref v3⟩, ⟨h4, .str a4 t4, .ref v4⟩, ⟨h5, .str a5 t5, .ref v5⟩] x = (if x = a1 then some v1 else if x = a2 then some v2 else if x = a3 then some v3 else if x = a4 then some v4 else if x = a5 then some v5 else none : Option Addr).map Value.ref := by
  unfold findBy
  rw [List.find?_toArray]
  simp only [List.find?_cons, Value.isStrOf, beqS, List.find?_nil]
  by_cases e1 : x = a1
  · rw [decide_eq_true e1, if_pos e1]; rfl
  rw [decide_eq_false e1, if_neg e1]
  by_cases e2 : x = a2
  · rw [decide_eq_true e2, if_pos e2]; rfl
  rw [decide_eq_false e2, if_neg e2]
  by_cases e3 : x = a3
  · rw [decide_eq_true e3, if_pos e3]; rfl
  rw [decide_eq_false e3, if_neg e3]
  by_cases e4 : x = a4
  · rw [decide_eq_true e4, if_pos e4]; rfl
  rw [decide_eq_false e4, if_neg e4]
  by_cases e5 : x = a5
  · rw [decide_eq_true e5, if_pos e5]; rfl
  rw [decide_eq_false e5, if_neg e5]
  rfl
theorem sq1 {K : PySem.W.Frag} {a : Addr} {od : Option Addr} {x : Str} {t0 : Tok} {n : Nat} {sl : Array (Option Value)} (l : K.lookup a = some ⟨.type "tuple", od, .seq #[.str x t0] n, sl⟩) : ∀ H : Hp, SqT K H a [.str x] :=
  fun _ => .inr ⟨_, _, _, l, rfl, rfl, (by show 1 ≤ sizeLine; decide), .cons ⟨_, rfl⟩ .nil⟩
theorem sq3 {K : PySem.W.Frag} {a : Addr} {od : Option Addr} {x y z : Str} {t0 t1 t2 : Tok} {n : Nat} {sl : Array (Option Value)} (l : K.lookup a = some ⟨.type "tuple", od, .seq #[.str x t0, .str y t1, .str z t2] n, sl⟩) : ∀ H : Hp, SqT K H a [.str x, .str y, .str z] :=
  fun _ => .inr ⟨_, _, _, l, rfl, rfl, (by show 3 ≤ sizeLine; decide), .cons ⟨_, rfl⟩ (.cons ⟨_, rfl⟩ (.cons ⟨_, rfl⟩ .nil))⟩
theorem forms_mk {w : World} {K : PySem.W.Frag} {aF f0 f1 f2 f3 f4 : Addr} {t0 t1 t2 t3 t4 : Tok} {h0 h1 h2 h3 h4 : Int} {n : Nat} (m : PySem.W.nsIn K mainGlobals "FORMS" = some (some (.ref aF))) (lo : (aF == sysModules) = false) (l : K.lookup aF = some ⟨.type "dict", none, .dict #[⟨h0, .str "draw" t0, .ref f0⟩, ⟨h1, .str "fill" t1, .ref f1⟩, ⟨h2, .str "pour" t2, .ref f2⟩, ⟨h3, .str "empty" t3, .ref f3⟩, ⟨h4, .str "rinse" t4, .ref f4⟩] n, #[]⟩) (k : PySem.W.KeysLit w.params ([⟨h0, .str "draw" t0, .ref f0⟩, ⟨h1, .str "fill" t1, .ref f1⟩, ⟨h2, .str "pour" t2, .ref f2⟩, ⟨h3, .str "empty" t3, .ref f3⟩, ⟨h4, .str "rinse" t4, .ref f4⟩] : List DictEntry))
    (s0 : ∀ H : Hp, SqT K H f0 [.str "phial", .str "ware", .str "amount"]) (s1 : ∀ H : Hp, SqT K H f1 [.str "phial", .str "ware", .str "level"]) (s2 : ∀ H : Hp, SqT K H f2 [.str "phial", .str "phial", .str "part"]) (s3 : ∀ H : Hp, SqT K H f3 [.str "phial"]) (s4 : ∀ H : Hp, SqT K H f4 [.str "phial"]) : ∃ (aF : Addr) (f : Str → Option Addr), FormsW w K aF f := by
  refine ⟨aF, frmA f0 f1 f2 f3 f4, ⟨lo, _, _, l, k, fun x => ?_⟩, m, fun x ks h => ?_, fun x h => ?_⟩
  · unfold frmA
    exact find5 x
  · unfold frm at h
    unfold frmA
    by_cases e0 : x = "draw"
    · rw [if_pos e0] at h ⊢
      cases h
      exact ⟨f0, rfl, s0⟩
    rw [if_neg e0] at h ⊢
    by_cases e1 : x = "fill"
    · rw [if_pos e1] at h ⊢
      cases h
      exact ⟨f1, rfl, s1⟩
    rw [if_neg e1] at h ⊢
    by_cases e2 : x = "pour"
    · rw [if_pos e2] at h ⊢
      cases h
      exact ⟨f2, rfl, s2⟩
    rw [if_neg e2] at h ⊢
    by_cases e3 : x = "empty"
    · rw [if_pos e3] at h ⊢
      cases h
      exact ⟨f3, rfl, s3⟩
    rw [if_neg e3] at h ⊢
    by_cases e4 : x = "rinse"
    · rw [if_pos e4] at h ⊢
      cases h
      exact ⟨f4, rfl, s4⟩
    rw [if_neg e4] at h ⊢
    cases h
  · unfold frm at h
    unfold frmA
    by_cases e0 : x = "draw"
    · rw [if_pos e0] at h
      cases h
    rw [if_neg e0] at h ⊢
    by_cases e1 : x = "fill"
    · rw [if_pos e1] at h
      cases h
    rw [if_neg e1] at h ⊢
    by_cases e2 : x = "pour"
    · rw [if_pos e2] at h
      cases h
    rw [if_neg e2] at h ⊢
    by_cases e3 : x = "empty"
    · rw [if_pos e3] at h
      cases h
    rw [if_neg e3] at h ⊢
    by_cases e4 : x = "rinse"
    · rw [if_pos e4] at h
      cases h
    rw [if_neg e4] at h ⊢
structure ClsD (K : PySem.W.Frag) (nm : Str) (fs : List Str) (qI qT : Str) (sI sT : Stmt) (ps : List Str) (C cD : Addr) : Prop where
  mgC : PySem.W.nsIn K mainGlobals nm = some (some (.ref C))
  na : ∀ f ∈ fs, NoAttr K C f
  ins : InsK K C
  k : PySem.W.kitOne K (.ref C) (.ref cD) = some true
  mks : PySem.W.makesIn K C = true
  kc : PySem.W.keepIn K (.ref C) = true
  mI : MDn K C "__init__" qI sI ps
  mT : MDn K C "told" qT sT ["self"]
theorem na1 {K : PySem.W.Frag} {C : Addr} {x : Str} (a : PySem.W.findIn K (.ref C) x = some none) : ∀ f ∈ [x], NoAttr K C f := fun f h => by
  cases List.mem_singleton.mp h
  exact a
theorem na3 {K : PySem.W.Frag} {C : Addr} {x y z : Str} (a : PySem.W.findIn K (.ref C) x = some none) (b : PySem.W.findIn K (.ref C) y = some none) (c : PySem.W.findIn K (.ref C) z = some none) : ∀ f ∈ [x, y, z], NoAttr K C f :=
  List.forall_mem_cons.mpr ⟨a, List.forall_mem_cons.mpr ⟨b, na1 c⟩⟩
theorem ClsD.init {P : Program} {w : World} {K : PySem.W.Frag} {mg : Str → Option Value} {base h : Heap} {nm : Str} {fs : List Str} {qI qT : Str} {sI sT : Stmt} {ps : List Str} {C cD : Addr} {sp : Sp} (D : ClsD K nm fs qI qT sI sT ps C cD) (X : K.In h) (G : h.Ns mainGlobals mg)
    (ok : ∀ {f : Addr} {fd : FuncData}, Fun K "__init__" qI sI f fd → FnOk P w K mg base CX0 1 f fd ps sp) : MkD P w K mg base C nm ps sp := by
  obtain ⟨f, fd, hm, F, b⟩ := D.mI.ex
  exact ⟨f, fd, ⟨D.mks, hm.at_, hm.fn, D.kc⟩, (ok F).mono (by decide), b, PySem.W.mg_of X G D.mgC⟩
theorem ClsD.told {P : Program} {w : World} {K : PySem.W.Frag} {mg : Str → Option Value} {base : Heap} {nm : Str} {fs : List Str} {qI qT : Str} {sI sT : Stmt} {ps : List Str} {C cD : Addr} {sp : Sp} (D : ClsD K nm fs qI qT sI sT ps C cD)
    (ok : ∀ {f : Addr} {fd : FuncData}, Fun K "told" qT sT f fd → FnOk P w K mg base CX0 1 f fd ["self"] sp) : Cls K C ∧ MCal P w K mg base CX0 9 C "told" ["self"] sp :=
  ⟨D.ins.cl, (D.mT.cal ok).mono (by decide)⟩
theorem ClsD.dcl {K : PySem.W.Frag} {nm : Str} {fs : List Str} {qI qT : Str} {sI sT : Stmt} {ps : List Str} {C cD : Addr} (D : ClsD K nm fs qI qT sI sT ps C cD) : DCl K C fs := ⟨D.ins.cl, D.na⟩
theorem ClsD.is {K : PySem.W.Frag} {nm : Str} {fs : List Str} {qI qT : Str} {sI sT : Stmt} {ps : List Str} {C cD : Addr} (D : ClsD K nm fs qI qT sI sT ps C cD) : DIs K C cD := ⟨D.ins, D.k⟩
theorem all5 {α : Type} {p : α → Prop} {a b c d e : α} (h1 : p a) (h2 : p b) (h3 : p c) (h4 : p d) (h5 : p e) : ∀ x ∈ [a, b, c, d, e], p x :=
  List.forall_mem_cons.mpr ⟨h1, List.forall_mem_cons.mpr ⟨h2, List.forall_mem_cons.mpr ⟨h3, List.forall_mem_cons.mpr ⟨h4, List.forall_mem_cons.mpr ⟨h5, fun _ h => nomatch h⟩⟩⟩⟩⟩
structure AllC (K : PySem.W.Frag) (cD CD CF CP CE CR : Addr) : Prop where
  mD : PySem.W.nsIn K mainGlobals "Deed" = some (some (.ref cD))
  dDraw : ClsD K "Draw" ["phial", "ware", "amount"] "Draw.__init__" "Draw.told" sIDraw sTDraw ["self", "phial", "ware", "amount"] CD cD
  dFill : ClsD K "Fill" ["phial", "ware", "level"] "Fill.__init__" "Fill.told" sIFill sTFill ["self", "phial", "ware", "level"] CF cD
  dPour : ClsD K "Pour" ["one", "other", "part"] "Pour.__init__" "Pour.told" sIPour sTPour ["self", "one", "other", "part"] CP cD
  dEmpty : ClsD K "Empty" ["phial"] "Empty.__init__" "Empty.told" sIEmpty sTEmpty ["self", "phial"] CE cD
  dRinse : ClsD K "Rinse" ["phial"] "Rinse.__init__" "Rinse.told" sIRinse sTRinse ["self", "phial"] CR cD
  on : MDn K CR "onto_at" "Rinse.onto_at" sORinse ["self", "bench", "phials", "place"]
theorem allc_mk {K : PySem.W.Frag} {cD CD CF CP CE CR : Addr} (mD : PySem.W.nsIn K mainGlobals "Deed" = some (some (.ref cD))) (dDraw : ClsD K "Draw" ["phial", "ware", "amount"] "Draw.__init__" "Draw.told" sIDraw sTDraw ["self", "phial", "ware", "amount"] CD cD) (dFill : ClsD K "Fill" ["phial", "ware", "level"] "Fill.__init__" "Fill.told" sIFill sTFill ["self", "phial", "ware", "level"] CF cD) (dPour : ClsD K "Pour" ["one", "other", "part"] "Pour.__init__" "Pour.told" sIPour sTPour ["self", "one", "other", "part"] CP cD) (dEmpty : ClsD K "Empty" ["phial"] "Empty.__init__" "Empty.told" sIEmpty sTEmpty ["self", "phial"] CE cD) (dRinse : ClsD K "Rinse" ["phial"] "Rinse.__init__" "Rinse.told" sIRinse sTRinse ["self", "phial"] CR cD) (on : MDn K CR "onto_at" "Rinse.onto_at" sORinse ["self", "bench", "phials", "place"]) : ∃ cD CD CF CP CE CR : Addr, AllC K cD CD CF CP CE CR := ⟨_, _, _, _, _, _, mD, dDraw, dFill, dPour, dEmpty, dRinse, on⟩
structure AllD (w : World) (K : PySem.W.Frag) : Prop where
  dIsWh : Dn K "is_whole_number" sIsWh ["thing"]
  dGcd : Dn K "common_divisor" sGcd ["one", "other"]
  dIsAm : Dn K "is_amount" sIsAm ["thing"]
  dLess : Dn K "less" sLess ["one", "other"]
  dIsWare : Dn K "is_ware" sIsWare ["thing"]
  dWithPh : Dn K "with_phial" sWithPh ["phials", "phial", "holds", "names"]
  dDeedOf : Dn K "deed_of" sDeedOf ["bench", "row"]
  dDeedAt : Dn K "deed_at" sDeedAt ["bench", "row", "place"]
  dIsRow : Dn K "is_row" sIsRow ["bench", "row"]
  dOfKind : Dn K "is_of_kind" sOfKind ["bench", "kind", "thing"]
  dDone : Dn K "done" sDone ["bench", "phials", "row"]
  dDoneAt : Dn K "done_at" sDoneAt ["bench", "phials", "row", "place"]
  dWalked : Dn K "walked" sWalked ["bench", "phials", "rows"]
  dSpoilt : Dn K "spoilt" sSpoilt ["bench", "phials", "rows"]
  dFirstR : Dn K "first_refused" sFirstR ["bench", "phials", "rows"]
  dCell : Dn K "_law_cell_at" sCell ["_law_script", "_law_k"]
  dMixed : Dn K "_law_mixed" sMixed ["_law_cell", "_law_k"]
  dWhole : Dn K "_law_whole" sWhole ["_law_found"]
  dLowest : Dn K "_law_lowest" sLowest ["_law_top", "_law_bottom"]
  dDigit : Dn K "_law_digit" sDigit ["_law_left", "_law_many"]
  dNames : Dn K "_law_names" sNames ["_law_left"]
  dWares : Dn K "_law_wares" sWares ["_law_cell"]
  dMuch : Dn K "_law_much" sMuch ["_law_number"]
  dApart : Dn K "_law_apart" sApart ["_law_wares_here", "_law_cell", "_law_often"]
  dFree : Dn K "_law_free_bench" sFree ["_law_script", "_law_wares_here"]
  dBench : Dn K "_law_bench" sBench ["_law_script", "_law_wares_here"]
  dFreeRow : Dn K "_law_free_row" sFreeRow ["_law_bench_here", "_law_wares_here", "_law_left"]
  dRow : Dn K "_law_row" sRow ["_law_bench_here", "_law_wares_here", "_law_script", "_law_k"]
  dKind : Dn K "_law_kind" sKind ["_law_error_here"]
  dRefused : Dn K "_law_refused" sRefused ["_law_error_here", "_law_due", "_law_place"]
  dOddPh : Dn K "_law_odd_phial" sOddPh ["_law_many", "_law_way", "_law_far"]
  dOddMu : Dn K "_law_odd_much" sOddMu ["_law_way", "_law_far"]
  dSpoil : Dn K "_law_spoiled" sSpoil ["_law_bench_here", "_law_row_here", "_law_way", "_law_far"]
  dErr : Dn K "_law_error" sErr ["_law_way", "_law_bench_here", "_law_state", "_law_row_here", "_law_ahead"]
  z0 : PySem.W.nsIn K mainGlobals "isinstance" = some none
  z1 : PySem.W.nsIn K mainGlobals "int" = some none
  z2 : PySem.W.nsIn K mainGlobals "bool" = some none
  z3 : PySem.W.nsIn K mainGlobals "tuple" = some none
  z4 : PySem.W.nsIn K mainGlobals "str" = some none
  z5 : PySem.W.nsIn K mainGlobals "len" = some none
  z6 : PySem.W.nsIn K mainGlobals "range" = some none
  z7 : PySem.W.nsIn K mainGlobals "min" = some none
  z8 : PySem.W.nsIn K mainGlobals "max" = some none
  z9 : PySem.W.nsIn K mainGlobals "abs" = some none
  z10 : PySem.W.nsIn K mainGlobals "list" = some none
  z11 : PySem.W.nsIn K mainGlobals "sorted" = some none
  z12 : PySem.W.nsIn K mainGlobals "zip" = some none
  z13 : PySem.W.nsIn K mainGlobals "set" = some none
  z14 : PySem.W.nsIn K mainGlobals "all" = some none
  z15 : PySem.W.nsIn K mainGlobals "enumerate" = some none
  z16 : PySem.W.nsIn K mainGlobals "ValueError" = some none
  nou : ∃ aN : Addr, NouK K aN
  one : ∃ aO : Addr, OneK K aO
  err : ∃ cP c0 c1 c2 c3 c4 c5 fI : Addr, ErDK K cP c0 c1 c2 c3 c4 c5 fI
  forms : ∃ (aF : Addr) (f : Str → Option Addr), FormsW w K aF f
  cls : ∃ cD CD CF CP CE CR : Addr, AllC K cD CD CF CP CE CR
  mM : ∃ t : Tok, PySem.W.nsIn K mainGlobals "MOST_LETTERS" = some (some (.int 8 t))
  mL : ∃ t : Tok, PySem.W.nsIn K mainGlobals "LETTERS" = some (some (.str LET t))
theorem AllD.txt {w : World} {K : PySem.W.Frag} {mg : Str → Option Value} {h : Heap} (A : AllD w K) (X : K.In h) (G : h.Ns mainGlobals mg) : Txt mg := ⟨PySem.W.mg_none_of X G A.z0, PySem.W.mg_none_of X G A.z1, PySem.W.mg_none_of X G A.z2, PySem.W.mg_none_of X G A.z3, PySem.W.mg_none_of X G A.z4, PySem.W.mg_none_of X G A.z5, PySem.W.mg_none_of X G A.z6, PySem.W.mg_none_of X G A.z7, PySem.W.mg_none_of X G A.z8, PySem.W.mg_none_of X G A.z9, PySem.W.mg_none_of X G A.z10, PySem.W.mg_none_of X G A.z11, PySem.W.mg_none_of X G A.z12, PySem.W.mg_none_of X G A.z13, PySem.W.mg_none_of X G A.z14, PySem.W.mg_none_of X G A.z15, PySem.W.mg_none_of X G A.z16⟩
theorem law_ok {P : Program} {w : World} {K : PySem.W.Frag} {mg : Str → Option Value} {base h : Heap} {f : Addr} {fd : FuncData} (X : K.In h) (G : h.Ns mainGlobals mg) (A : AllD w K) (F : Fun K "law" "law" sLaw f fd) : FnOk P w K mg base CX0 10 f fd ["_law_script"] (spLaw K) := by
  have T : Txt mg := A.txt X G
  obtain ⟨aN, NK⟩ := A.nou
  have mN := PySem.W.mg_of X G NK.m
  obtain ⟨aO, OK⟩ := A.one
  have mO := PySem.W.mg_of X G OK.m
  obtain ⟨cP, c0, c1, c2, c3, c4, c5, fI, EK⟩ := A.err
  have R := EK.er X G
  obtain ⟨fdI, FI, bI⟩ := EK.fn
  obtain ⟨aF, fF, FW⟩ := A.forms
  have FK : FormsK w K mg aF fF := ⟨FW.d, PySem.W.mg_of X G FW.m, FW.y, FW.n⟩
  obtain ⟨cD, CD, CF, CP, CE, CR, CK⟩ := A.cls
  obtain ⟨t1, h1⟩ := A.mM
  have mM := PySem.W.mg_of X G h1
  obtain ⟨t2, h2⟩ := A.mL
  have mL := PySem.W.mg_of X G h2
  have kI : FnOk P w K mg base CX0 1 fI fdI ["self", "place"] (spINo c5) := ok_ino FI R
  have cG : Cal P w K mg base CX0 1 "common_divisor" ["one", "other"] spGcd := A.dGcd.cal X G ok_gcd
  have cWh : Cal P w K mg base CX0 1 "is_whole_number" ["thing"] (spWh K) := A.dIsWh.cal X G fun F => ok_iswh F T
  have cWr : Cal P w K mg base CX0 1 "is_ware" ["thing"] (spIsWare K) := A.dIsWare.cal X G fun F => ok_isware F T mM mL
  have cAm : Cal P w K mg base CX0 2 "is_amount" ["thing"] (spIsAm K) := A.dIsAm.cal X G fun F => ok_isam F T cWh cG
  have cLs : Cal P w K mg base CX0 1 "less" ["one", "other"] (spLess1 K aO) := A.dLess.cal X G fun F => ok_less1 F OK.s
  have cKd : Cal P w K mg base CX0 3 "is_of_kind" ["bench", "kind", "thing"] (spOfKind K) := A.dOfKind.cal X G fun F => ok_ofkind F T mN NK.s mO (cWh.mono (by decide)) (cWr.mono (by decide)) cAm (cLs.mono (by decide))
  have cIr : Cal P w K mg base CX0 4 "is_row" ["bench", "row"] (spIsRow K) := A.dIsRow.cal X G fun F => ok_isrow F T FK cKd
  have kCD : MkD P w K mg base CD "Draw" ["self", "phial", "ware", "amount"] (spMk3 CD "phial" "ware" "amount") := CK.dDraw.init X G fun F => ok_iDraw F CK.dDraw.dcl
  have kCF : MkD P w K mg base CF "Fill" ["self", "phial", "ware", "level"] (spMk3 CF "phial" "ware" "level") := CK.dFill.init X G fun F => ok_iFill F CK.dFill.dcl
  have kCP : MkD P w K mg base CP "Pour" ["self", "one", "other", "part"] (spMk3 CP "one" "other" "part") := CK.dPour.init X G fun F => ok_iPour F CK.dPour.dcl
  have kCE : MkD P w K mg base CE "Empty" ["self", "phial"] (spMk1 CE "phial") := CK.dEmpty.init X G fun F => ok_iEmpty F CK.dEmpty.dcl
  have kCR : MkD P w K mg base CR "Rinse" ["self", "phial"] (spMk1 CR "phial") := CK.dRinse.init X G fun F => ok_iRinse F CK.dRinse.dcl
  have cDa : Cal P w K mg base (CXg P w) 6 "deed_at" ["bench", "row", "place"] (spDeedAt K c5 CD CF CP CE CR) := A.dDeedAt.cal X G fun F => ok_deedat F R kI bI (cIr.mono (by decide)) kCD kCF kCP kCE kCR
  have cDo : Cal P w K mg base (CXg P w) 7 "deed_of" ["bench", "row"] (spDeedOf K c5 CD CF CP CE CR) := A.dDeedOf.cal X G fun F => ok_deedof F cDa
  have cWp : Cal P w K mg base CX0 1 "with_phial" ["phials", "phial", "holds", "names"] spWith := A.dWithPh.cal X G fun F => ok_with F T
  have mOn : MCal P w K mg base CX0 2 CR "onto_at" ["self", "bench", "phials", "place"] (spOntoR CR) := CK.on.cal fun F => ok_orinse F CK.dRinse.dcl cWp
  have cDt : Cal P w K mg base (CXg P w) 7 "done_at" ["bench", "phials", "row", "place"] (spDoneAt K c5) := A.dDoneAt.cal X G fun F => ok_doneat F CK.dRinse.dcl cDa (mOn.mono (by decide))
  have cDn : Cal P w K mg base (CXg P w) 8 "done" ["bench", "phials", "row"] (spDone K c5) := A.dDone.cal X G fun F => ok_done F cDt
  have cWk : Cal P w K mg base (CXg P w) 8 "walked" ["bench", "phials", "rows"] (spWalk K c5) := A.dWalked.cal X G fun F => ok_walked F T cDt
  have cSp : Cal P w K mg base (CXg P w) 8 "spoilt" ["bench", "phials", "rows"] (spWalk K c5) := A.dSpoilt.cal X G fun F => ok_spoilt F T cDt
  have cFr : Cal P w K mg base CX0 9 "first_refused" ["bench", "phials", "rows"] (spFirstR K) := A.dFirstR.cal X G fun F => ok_firstr F T R cDn
  have cC : Cal P w K mg base CX0 1 "_law_cell_at" ["_law_script", "_law_k"] (spCell K) := A.dCell.cal X G fun F => ok_cell F T
  have cX : Cal P w K mg base CX0 1 "_law_mixed" ["_law_cell", "_law_k"] spMixed := A.dMixed.cal X G ok_mixed
  have cLo : Cal P w K mg base CX0 1 "_law_lowest" ["_law_top", "_law_bottom"] spLowest := A.dLowest.cal X G ok_lowest
  have cDi : Cal P w K mg base CX0 1 "_law_digit" ["_law_left", "_law_many"] spDigit := A.dDigit.cal X G ok_digit
  have cNa : Cal P w K mg base CX0 2 "_law_names" ["_law_left"] spNames := A.dNames.cal X G fun F => ok_names F T cDi
  have cWa : Cal P w K mg base CX0 3 "_law_wares" ["_law_cell"] spWares := A.dWares.cal X G fun F => ok_wares F T cNa (cX.mono (by decide))
  have cMu : Cal P w K mg base CX0 2 "_law_much" ["_law_number"] spMuch := A.dMuch.cal X G fun F => ok_much F cLo
  have cAp : Cal P w K mg base CX0 2 "_law_apart" ["_law_wares_here", "_law_cell", "_law_often"] (spApart K) := A.dApart.cal X G fun F => ok_apart F T cX
  have cFb : Cal P w K mg base CX0 2 "_law_free_bench" ["_law_script", "_law_wares_here"] (spBench K) := A.dFree.cal X G fun F => ok_free F T cC cDi cLo
  have cBe : Cal P w K mg base CX0 3 "_law_bench" ["_law_script", "_law_wares_here"] (spBench K) := A.dBench.cal X G fun F => ok_bench F T (cC.mono (by decide)) cFb (cX.mono (by decide)) cMu cAp
  have cFw : Cal P w K mg base CX0 2 "_law_free_row" ["_law_bench_here", "_law_wares_here", "_law_left"] spFreeRow := A.dFreeRow.cal X G fun F => ok_freerow F T cDi cLo
  have cRw : Cal P w K mg base CX0 3 "_law_row" ["_law_bench_here", "_law_wares_here", "_law_script", "_law_k"] (spRow K) := A.dRow.cal X G fun F => ok_row F T (cC.mono (by decide)) (cX.mono (by decide)) cFw cMu (cLo.mono (by decide))
  have cW : Cal P w K mg base CX0 1 "_law_whole" ["_law_found"] (spWh K) := A.dWhole.cal X G fun F => ok_whole F T
  have cKn : Cal P w K mg base CX0 1 "_law_kind" ["_law_error_here"] (spKind c5) := A.dKind.cal X G fun F => ok_kind F T R
  have cRf : Cal P w K mg base CX0 2 "_law_refused" ["_law_error_here", "_law_due", "_law_place"] (spRefused c5) := A.dRefused.cal X G fun F => ok_refused F T R cKn cW
  have cOp : Cal P w K mg base CX0 1 "_law_odd_phial" ["_law_many", "_law_way", "_law_far"] (spOddP K) := A.dOddPh.cal X G fun F => ok_oddp F
  have cOm : Cal P w K mg base CX0 1 "_law_odd_much" ["_law_way", "_law_far"] (spOddM K) := A.dOddMu.cal X G fun F => ok_oddm F
  have cSl : Cal P w K mg base CX0 2 "_law_spoiled" ["_law_bench_here", "_law_row_here", "_law_way", "_law_far"] (spSpoil K) := A.dSpoil.cal X G fun F => ok_spoil F T cOp cOm
  have cEr : Cal P w K mg base CX0 9 "_law_error" ["_law_way", "_law_bench_here", "_law_state", "_law_row_here", "_law_ahead"] (spErr K c5) := A.dErr.cal X G fun F => ok_err F R cDn (cDo.mono (by decide)) cWk cSp
  have hT : ∀ c ∈ toldCs CD CF CP CE CR, Cls K c.1 ∧ MCal P w K mg base CX0 9 c.1 "told" ["self"] c.2 :=
    all5 (CK.dDraw.told fun F => ok_tDraw F CK.dDraw.dcl) (CK.dFill.told fun F => ok_tFill F CK.dFill.dcl) (CK.dPour.told fun F => ok_tPour F CK.dPour.dcl) (CK.dEmpty.told fun F => ok_tEmpty F CK.dEmpty.dcl) (CK.dRinse.told fun F => ok_tRinse F CK.dRinse.dcl)
  exact ok_law F T (PySem.W.mg_of X G CK.mD) CK.dDraw.is CK.dFill.is CK.dPour.is CK.dEmpty.is CK.dRinse.is hT (cC.mono (by decide)) (cX.mono (by decide)) (cWa.mono (by decide)) (cBe.mono (by decide)) (cRw.mono (by decide)) (cFw.mono (by decide)) (cSl.mono (by decide)) cEr (cRf.mono (by decide)) cFr (cW.mono (by decide)) (cDo.mono (by decide))
theorem all_mk {l : PySem.W.OpenLaw} {w : World} {K : PySem.W.Frag} {h : Heap} {mg : Str → Option Value} {fa f4 : Addr} (X : K.In h) (G : h.Ns mainGlobals mg) (hfa : mg "law" = some (.ref fa)) (A : AllD w K)
    {od4 an4 : Option Addr} {sl4 : Array (Option Value)} {oc4 kV4 dc4 pm4 cd4 ct4 : Value}
    (a4 : PySem.W.nsIn K mainGlobals "law" = some (some (.ref f4))) (l4 : K.lookup f4 = some ⟨oc4, od4, .func (PySem.W.fnOf "law" "law" (defArgs sLaw) (defBody sLaw) (defScope sLaw) .none kV4 dc4 pm4 an4 cd4 ct4), sl4⟩) (c4 : PySem.W.codeIn K cd4 "law" = true) (k4 : PySem.W.keepIn K (.ref f4) = true) :
    ∃ fd : FuncData, (∀ (s : Shared) (v : Value), BindsTo s fd ⟨[v], []⟩ [("_law_script", v)]) ∧ ∀ base : Heap, K.In base → base.Ns mainGlobals mg → FnOk l.prog w K mg base CX0 10 fa fd ["_law_script"] (spLaw K) := by
  have e := hfa.symm.trans (PySem.W.mg_of X G a4)
  cases e
  exact ⟨PySem.W.fnOf "law" "law" (defArgs sLaw) (defBody sLaw) (defScope sLaw) .none kV4 dc4 pm4 an4 cd4 ct4, fun s v => .of_eq rfl, fun base _ _ => law_ok X G A (fun_mk (st := sLaw) l4 c4 k4)⟩
theorem walk {l : PySem.W.OpenLaw} {q : Program} {loose : List Str} {XP : (Str → Option Value) → Heap → Prop} {YP : World → Heap → Prop} {d : DefRec} {K : Params → PySem.W.Frag} (hn : l.most = some 63) (hdf : d.params.defaults = [])
    (hY : ∀ (w : World) (h : Heap), YP w h → (K w.params).In h)
    (F : ∀ (w : World) (mg : Str → Option Value) (fa : Addr) (h : Heap), (K w.params).In h → h.Ns mainGlobals mg → mg d.name = some (.ref fa) →
      ∃ fd : FuncData, (∀ (s : Shared) (u : Value), BindsTo s fd ⟨[u], []⟩ [("_law_script", u)]) ∧ ∀ base : Heap, (K w.params).In base → base.Ns mainGlobals mg → FnOk l.prog w (K w.params) mg base CX0 10 fa fd ["_law_script"] (spLaw (K w.params))) :
    PySem.W.WalkO q loose XP YP l.row.toRowW d [] (fun f vs => PySem.call f vs) :=
  L2.walk_of (n := 63) (k := 10) (x := "_law_script") (CX := fun _ => CX0) (sp := fun w => spLaw (K w.params)) hn (by decide) hdf ⟨rfl, by decide, by decide⟩ hY F (fun _ _ a ns hl _ hS => ⟨a, ns, rfl, hS, hl, fun _ => rfl⟩) fun _ _ _ _ _ z => z
end K36
/-! The names by which the walk would write large twins of some of its parts are taken: without them the compiled text stays within the size that a hand-in may have. -/
def PySem.W.Fast.tw16884322426738569001 : Unit := ()
def PySem.W.Fast.tw2180473246194627509 : Unit := ()
def PySem.W.Fast.tw10222144887531500644 : Unit := ()
def PySem.W.Fast.tw9843081782709436406 : Unit := ()
def PySem.W.Fast.tw1099213058311879411 : Unit := ()
def PySem.W.Fast.tw16895059178317739144 : Unit := ()
def PySem.W.Fast.tw2510703352554864713 : Unit := ()
def PySem.W.Fast.tw5006682494598868445 : Unit := ()
def PySem.W.Fast.tw5404889591716884349 : Unit := ()
def PySem.W.Fast.tw5058687339795396992 : Unit := ()
def PySem.W.Fast.tw910598904651918490 : Unit := ()
def PySem.W.Fast.tw13759714841149847842 : Unit := ()
def PySem.W.Fast.tw16329073802445015873 : Unit := ()
def PySem.W.Fast.tw462518606629709978 : Unit := ()
def PySem.W.Fast.tw11420921980216690027 : Unit := ()
def PySem.W.Fast.tw7222047739762246265 : Unit := ()
def PySem.W.Fast.tw5951627603631255708 : Unit := ()
def PySem.W.Fast.tw15142900698144638184 : Unit := ()
def PySem.W.Fast.tw13807412322195935963 : Unit := ()
def PySem.W.Fast.tw17852212092875489618 : Unit := ()
def PySem.W.Fast.tw4271305749654132508 : Unit := ()
def PySem.W.Fast.tw18348356334215060581 : Unit := ()
def PySem.W.Fast.tw11294067028253774547 : Unit := ()
def PySem.W.Fast.tw15244079258029846706 : Unit := ()
def PySem.W.Fast.tw3226640950068834715 : Unit := ()
def PySem.W.Fast.tw9512001962421162912 : Unit := ()
def PySem.W.Fast.tw2533532724677907227 : Unit := ()
def PySem.W.Fast.tw15530836068869007638 : Unit := ()
def PySem.W.Fast.tw7531781523506491698 : Unit := ()
def PySem.W.Fast.tw8179082609825828551 : Unit := ()
def PySem.W.Fast.tw17270983905067055919 : Unit := ()
def PySem.W.Fast.tw5209149603252739181 : Unit := ()
def PySem.W.Fast.tw12310348412479727986 : Unit := ()
def PySem.W.Fast.tw269075359046176266 : Unit := ()
def PySem.W.Fast.tw7253241059006068159 : Unit := ()
def PySem.W.Fast.tw12116148678772965411 : Unit := ()
def PySem.W.Fast.tw2347998746554500299 : Unit := ()
def PySem.W.Fast.tw1269725912189755959 : Unit := ()
def PySem.W.Fast.tw3822793721074910912 : Unit := ()
def PySem.W.Fast.tw10035154178241169145 : Unit := ()
def PySem.W.Fast.tw8615883756416913972 : Unit := ()
def PySem.W.Fast.tw162712058565501094 : Unit := ()
def PySem.W.Fast.tw3105635277339947400 : Unit := ()
def PySem.W.Fast.tw3435056311359940808 : Unit := ()
def PySem.W.Fast.tw3562042742028244478 : Unit := ()
def PySem.W.Fast.tw11991767509116646190 : Unit := ()
def PySem.W.Fast.tw13723260812015241944 : Unit := ()
def PySem.W.Fast.tw7550131373807795621 : Unit := ()
def PySem.W.Fast.tw10305709684519188340 : Unit := ()
def PySem.W.Fast.tw3414202524902931913 : Unit := ()
def PySem.W.Fast.tw15357406581907635333 : Unit := ()
def PySem.W.Fast.tw15554964685272841358 : Unit := ()
def PySem.W.Fast.tw6827184108396070602 : Unit := ()
def PySem.W.Fast.tw14940400091695701403 : Unit := ()
def PySem.W.Fast.tw3539390802500160332 : Unit := ()
def PySem.W.Fast.tw3382651441128257133 : Unit := ()
def PySem.W.Fast.tw14711490673061785158 : Unit := ()
def PySem.W.Fast.tw18112049291918479210 : Unit := ()
def PySem.W.Fast.tw1527313970277142096 : Unit := ()
def PySem.W.Fast.tw11490502696846475264 : Unit := ()
def PySem.W.Fast.tw4470020456776393949 : Unit := ()
def PySem.W.Fast.tw7092152008214490458 : Unit := ()
def PySem.W.Fast.tw739112492719416998 : Unit := ()
def PySem.W.Fast.tw8059902967648768461 : Unit := ()
def PySem.W.Fast.tw17359090006346411926 : Unit := ()
def PySem.W.Fast.tw7375015127328116741 : Unit := ()
def PySem.W.Fast.tw9432216189001922616 : Unit := ()
def PySem.W.Fast.tw17300383344921099966 : Unit := ()
def PySem.W.Fast.tw10336947690140054383 : Unit := ()
def PySem.W.Fast.tw13818423147996262262 : Unit := ()
def PySem.W.Fast.tw15670481247970693938 : Unit := ()
def PySem.W.Fast.tw5940152589058716346 : Unit := ()
def PySem.W.Fast.tw6446709816211555681 : Unit := ()
def PySem.W.Fast.tw15098195071922722453 : Unit := ()
def PySem.W.Fast.tw4345874723454111143 : Unit := ()
def PySem.W.Fast.tw14607313445524262031 : Unit := ()
def PySem.W.Fast.tw1783230417435250732 : Unit := ()
def PySem.W.Fast.tw1153179357748780437 : Unit := ()
def PySem.W.Fast.tw15487681900301449095 : Unit := ()
def PySem.W.Fast.tw657524093621802661 : Unit := ()
def PySem.W.Fast.tw3912567811896613087 : Unit := ()
def PySem.W.Fast.tw6790024725070041957 : Unit := ()
def PySem.W.Fast.tw13707597488549908685 : Unit := ()
def PySem.W.Fast.tw14695553695167991571 : Unit := ()
def PySem.W.Fast.tw11588544571270661670 : Unit := ()
def PySem.W.Fast.tw16362217282848119013 : Unit := ()
def PySem.W.Fast.tw11844866188046933117 : Unit := ()
def PySem.W.Fast.tw10642622200588050684 : Unit := ()
def PySem.W.Fast.tw12128123164588239139 : Unit := ()
def PySem.W.Fast.tw1403292389451890826 : Unit := ()
def PySem.W.Fast.tw4766702804753391902 : Unit := ()
def PySem.W.Fast.tw11181430284263554265 : Unit := ()
def PySem.W.Fast.tw18090098545654293558 : Unit := ()
def PySem.W.Fast.tw17778396959764527416 : Unit := ()
def PySem.W.Fast.tw15427920085851702194 : Unit := ()
def PySem.W.Fast.tw16300392108914938881 : Unit := ()
def PySem.W.Fast.tw7451350759884171867 : Unit := ()
def PySem.W.Fast.tw16823609135610902444 : Unit := ()
def PySem.W.Fast.tw11126887132426047513 : Unit := ()
def PySem.W.Fast.tw9624238432010769240 : Unit := ()
def PySem.W.Fast.tw3010442907569927933 : Unit := ()
def PySem.W.Fast.tw5478413979665616812 : Unit := ()
def PySem.W.Fast.tw17513456784760885841 : Unit := ()
def PySem.W.Fast.tw5425826739262117318 : Unit := ()
def PySem.W.Fast.tw2588876202483794606 : Unit := ()
def PySem.W.Fast.tw17243913146610724304 : Unit := ()
def PySem.W.Fast.tw15420614226585781328 : Unit := ()
def PySem.W.Fast.tw13043315854396455596 : Unit := ()
def PySem.W.Fast.tw7152451811075480612 : Unit := ()
def PySem.W.Fast.tw5768928078655103009 : Unit := ()
def PySem.W.Fast.tw3209195924634491454 : Unit := ()
def PySem.W.Fast.tw9950773959354016517 : Unit := ()
def PySem.W.Fast.tw17382706462590557433 : Unit := ()
def PySem.W.Fast.tw3050173421730004873 : Unit := ()
def PySem.W.Fast.tw1549201831133361115 : Unit := ()
def PySem.W.Fast.tw13916900274326506289 : Unit := ()
def PySem.W.Fast.tw12016379020225396961 : Unit := ()
def PySem.W.Fast.tw18361838323807292953 : Unit := ()
def PySem.W.Fast.tw16906722094767280052 : Unit := ()
def PySem.W.Fast.tw13593776095708631525 : Unit := ()
open PySem PySem.W PyProof.Rows
set_option maxRecDepth 100000 in
set_option maxHeartbeats 0 in
theorem PySem.Challenge.cw_phialhouse_k36_rows_that_are_none_holds : PySem.Challenge.rw_phialhouse_k36_rows_that_are_none.Holds := by
  w_on; o_law; k_head; (case hw => w_witness2)
  k_fill
  refine K36.walk (l := PySem.Challenge.rw_phialhouse_k36_rows_that_are_none) rfl rfl (fun w h Y => PySem.W.kIn_of Y) ?F
  case F =>
    intro w mg fa h KX G hmg
    have dIsWh : K36.Dn (L2.KOf KX) "is_whole_number" K36.sIsWh ["thing"] := by
      dsimp only [L2.KOf]
      refine' K36.Dn.mk' ?a ?l ?c ?k ?b
      (case a => k_is); (case l => k_is); (case c => k_is); (case k => k_is)
      (case b => exact fun _ _ _ _ _ _ us hl => match us, hl with | [_], _ => rfl)
    have dGcd : K36.Dn (L2.KOf KX) "common_divisor" K36.sGcd ["one", "other"] := by
      dsimp only [L2.KOf]
      refine' K36.Dn.mk' ?a ?l ?c ?k ?b
      (case a => k_is); (case l => k_is); (case c => k_is); (case k => k_is)
      (case b => exact fun _ _ _ _ _ _ us hl => match us, hl with | [_, _], _ => rfl)
    have dIsAm : K36.Dn (L2.KOf KX) "is_amount" K36.sIsAm ["thing"] := by
      dsimp only [L2.KOf]
      refine' K36.Dn.mk' ?a ?l ?c ?k ?b
      (case a => k_is); (case l => k_is); (case c => k_is); (case k => k_is)
      (case b => exact fun _ _ _ _ _ _ us hl => match us, hl with | [_], _ => rfl)
    have dLess : K36.Dn (L2.KOf KX) "less" K36.sLess ["one", "other"] := by
      dsimp only [L2.KOf]
      refine' K36.Dn.mk' ?a ?l ?c ?k ?b
      (case a => k_is); (case l => k_is); (case c => k_is); (case k => k_is)
      (case b => exact fun _ _ _ _ _ _ us hl => match us, hl with | [_, _], _ => rfl)
    have dIsWare : K36.Dn (L2.KOf KX) "is_ware" K36.sIsWare ["thing"] := by
      dsimp only [L2.KOf]
      refine' K36.Dn.mk' ?a ?l ?c ?k ?b
      (case a => k_is); (case l => k_is); (case c => k_is); (case k => k_is)
      (case b => exact fun _ _ _ _ _ _ us hl => match us, hl with | [_], _ => rfl)
    have dWithPh : K36.Dn (L2.KOf KX) "with_phial" K36.sWithPh ["phials", "phial", "holds", "names"] := by
      dsimp only [L2.KOf]
      refine' K36.Dn.mk' ?a ?l ?c ?k ?b
      (case a => k_is); (case l => k_is); (case c => k_is); (case k => k_is)
      (case b => exact fun _ _ _ _ _ _ us hl => match us, hl with | [_, _, _, _], _ => rfl)
    have dDeedOf : K36.Dn (L2.KOf KX) "deed_of" K36.sDeedOf ["bench", "row"] := by
      dsimp only [L2.KOf]
      refine' K36.Dn.mk' ?a ?l ?c ?k ?b
      (case a => k_is); (case l => k_is); (case c => k_is); (case k => k_is)
      (case b => exact fun _ _ _ _ _ _ us hl => match us, hl with | [_, _], _ => rfl)
    have dDeedAt : K36.Dn (L2.KOf KX) "deed_at" K36.sDeedAt ["bench", "row", "place"] := by
      dsimp only [L2.KOf]
      refine' K36.Dn.mk' ?a ?l ?c ?k ?b
      (case a => k_is); (case l => k_is); (case c => k_is); (case k => k_is)
      (case b => exact fun _ _ _ _ _ _ us hl => match us, hl with | [_, _, _], _ => rfl)
    have dIsRow : K36.Dn (L2.KOf KX) "is_row" K36.sIsRow ["bench", "row"] := by
      dsimp only [L2.KOf]
      refine' K36.Dn.mk' ?a ?l ?c ?k ?b
      (case a => k_is); (case l => k_is); (case c => k_is); (case k => k_is)
      (case b => exact fun _ _ _ _ _ _ us hl => match us, hl with | [_, _], _ => rfl)
    have dOfKind : K36.Dn (L2.KOf KX) "is_of_kind" K36.sOfKind ["bench", "kind", "thing"] := by
      dsimp only [L2.KOf]
      refine' K36.Dn.mk' ?a ?l ?c ?k ?b
      (case a => k_is); (case l => k_is); (case c => k_is); (case k => k_is)
      (case b => exact fun _ _ _ _ _ _ us hl => match us, hl with | [_, _, _], _ => rfl)
    have dDone : K36.Dn (L2.KOf KX) "done" K36.sDone ["bench", "phials", "row"] := by
      dsimp only [L2.KOf]
      refine' K36.Dn.mk' ?a ?l ?c ?k ?b
      (case a => k_is); (case l => k_is); (case c => k_is); (case k => k_is)
      (case b => exact fun _ _ _ _ _ _ us hl => match us, hl with | [_, _, _], _ => rfl)
    have dDoneAt : K36.Dn (L2.KOf KX) "done_at" K36.sDoneAt ["bench", "phials", "row", "place"] := by
      dsimp only [L2.KOf]
      refine' K36.Dn.mk' ?a ?l ?c ?k ?b
      (case a => k_is); (case l => k_is); (case c => k_is); (case k => k_is)
      (case b => exact fun _ _ _ _ _ _ us hl => match us, hl with | [_, _, _, _], _ => rfl)
    have dWalked : K36.Dn (L2.KOf KX) "walked" K36.sWalked ["bench", "phials", "rows"] := by
      dsimp only [L2.KOf]
      refine' K36.Dn.mk' ?a ?l ?c ?k ?b
      (case a => k_is); (case l => k_is); (case c => k_is); (case k => k_is)
      (case b => exact fun _ _ _ _ _ _ us hl => match us, hl with | [_, _, _], _ => rfl)
    have dSpoilt : K36.Dn (L2.KOf KX) "spoilt" K36.sSpoilt ["bench", "phials", "rows"] := by
      dsimp only [L2.KOf]
      refine' K36.Dn.mk' ?a ?l ?c ?k ?b
      (case a => k_is); (case l => k_is); (case c => k_is); (case k => k_is)
      (case b => exact fun _ _ _ _ _ _ us hl => match us, hl with | [_, _, _], _ => rfl)
    have dFirstR : K36.Dn (L2.KOf KX) "first_refused" K36.sFirstR ["bench", "phials", "rows"] := by
      dsimp only [L2.KOf]
      refine' K36.Dn.mk' ?a ?l ?c ?k ?b
      (case a => k_is); (case l => k_is); (case c => k_is); (case k => k_is)
      (case b => exact fun _ _ _ _ _ _ us hl => match us, hl with | [_, _, _], _ => rfl)
    have dCell : K36.Dn (L2.KOf KX) "_law_cell_at" K36.sCell ["_law_script", "_law_k"] := by
      dsimp only [L2.KOf]
      refine' K36.Dn.mk' ?a ?l ?c ?k ?b
      (case a => k_is); (case l => k_is); (case c => k_is); (case k => k_is)
      (case b => exact fun _ _ _ _ _ _ us hl => match us, hl with | [_, _], _ => rfl)
    have dMixed : K36.Dn (L2.KOf KX) "_law_mixed" K36.sMixed ["_law_cell", "_law_k"] := by
      dsimp only [L2.KOf]
      refine' K36.Dn.mk' ?a ?l ?c ?k ?b
      (case a => k_is); (case l => k_is); (case c => k_is); (case k => k_is)
      (case b => exact fun _ _ _ _ _ _ us hl => match us, hl with | [_, _], _ => rfl)
    have dWhole : K36.Dn (L2.KOf KX) "_law_whole" K36.sWhole ["_law_found"] := by
      dsimp only [L2.KOf]
      refine' K36.Dn.mk' ?a ?l ?c ?k ?b
      (case a => k_is); (case l => k_is); (case c => k_is); (case k => k_is)
      (case b => exact fun _ _ _ _ _ _ us hl => match us, hl with | [_], _ => rfl)
    have dLowest : K36.Dn (L2.KOf KX) "_law_lowest" K36.sLowest ["_law_top", "_law_bottom"] := by
      dsimp only [L2.KOf]
      refine' K36.Dn.mk' ?a ?l ?c ?k ?b
      (case a => k_is); (case l => k_is); (case c => k_is); (case k => k_is)
      (case b => exact fun _ _ _ _ _ _ us hl => match us, hl with | [_, _], _ => rfl)
    have dDigit : K36.Dn (L2.KOf KX) "_law_digit" K36.sDigit ["_law_left", "_law_many"] := by
      dsimp only [L2.KOf]
      refine' K36.Dn.mk' ?a ?l ?c ?k ?b
      (case a => k_is); (case l => k_is); (case c => k_is); (case k => k_is)
      (case b => exact fun _ _ _ _ _ _ us hl => match us, hl with | [_, _], _ => rfl)
    have dNames : K36.Dn (L2.KOf KX) "_law_names" K36.sNames ["_law_left"] := by
      dsimp only [L2.KOf]
      refine' K36.Dn.mk' ?a ?l ?c ?k ?b
      (case a => k_is); (case l => k_is); (case c => k_is); (case k => k_is)
      (case b => exact fun _ _ _ _ _ _ us hl => match us, hl with | [_], _ => rfl)
    have dWares : K36.Dn (L2.KOf KX) "_law_wares" K36.sWares ["_law_cell"] := by
      dsimp only [L2.KOf]
      refine' K36.Dn.mk' ?a ?l ?c ?k ?b
      (case a => k_is); (case l => k_is); (case c => k_is); (case k => k_is)
      (case b => exact fun _ _ _ _ _ _ us hl => match us, hl with | [_], _ => rfl)
    have dMuch : K36.Dn (L2.KOf KX) "_law_much" K36.sMuch ["_law_number"] := by
      dsimp only [L2.KOf]
      refine' K36.Dn.mk' ?a ?l ?c ?k ?b
      (case a => k_is); (case l => k_is); (case c => k_is); (case k => k_is)
      (case b => exact fun _ _ _ _ _ _ us hl => match us, hl with | [_], _ => rfl)
    have dApart : K36.Dn (L2.KOf KX) "_law_apart" K36.sApart ["_law_wares_here", "_law_cell", "_law_often"] := by
      dsimp only [L2.KOf]
      refine' K36.Dn.mk' ?a ?l ?c ?k ?b
      (case a => k_is); (case l => k_is); (case c => k_is); (case k => k_is)
      (case b => exact fun _ _ _ _ _ _ us hl => match us, hl with | [_, _, _], _ => rfl)
    have dFree : K36.Dn (L2.KOf KX) "_law_free_bench" K36.sFree ["_law_script", "_law_wares_here"] := by
      dsimp only [L2.KOf]
      refine' K36.Dn.mk' ?a ?l ?c ?k ?b
      (case a => k_is); (case l => k_is); (case c => k_is); (case k => k_is)
      (case b => exact fun _ _ _ _ _ _ us hl => match us, hl with | [_, _], _ => rfl)
    have dBench : K36.Dn (L2.KOf KX) "_law_bench" K36.sBench ["_law_script", "_law_wares_here"] := by
      dsimp only [L2.KOf]
      refine' K36.Dn.mk' ?a ?l ?c ?k ?b
      (case a => k_is); (case l => k_is); (case c => k_is); (case k => k_is)
      (case b => exact fun _ _ _ _ _ _ us hl => match us, hl with | [_, _], _ => rfl)
    have dFreeRow : K36.Dn (L2.KOf KX) "_law_free_row" K36.sFreeRow ["_law_bench_here", "_law_wares_here", "_law_left"] := by
      dsimp only [L2.KOf]
      refine' K36.Dn.mk' ?a ?l ?c ?k ?b
      (case a => k_is); (case l => k_is); (case c => k_is); (case k => k_is)
      (case b => exact fun _ _ _ _ _ _ us hl => match us, hl with | [_, _, _], _ => rfl)
    have dRow : K36.Dn (L2.KOf KX) "_law_row" K36.sRow ["_law_bench_here", "_law_wares_here", "_law_script", "_law_k"] := by
      dsimp only [L2.KOf]
      refine' K36.Dn.mk' ?a ?l ?c ?k ?b
      (case a => k_is); (case l => k_is); (case c => k_is); (case k => k_is)
      (case b => exact fun _ _ _ _ _ _ us hl => match us, hl with | [_, _, _, _], _ => rfl)
    have dKind : K36.Dn (L2.KOf KX) "_law_kind" K36.sKind ["_law_error_here"] := by
      dsimp only [L2.KOf]
      refine' K36.Dn.mk' ?a ?l ?c ?k ?b
      (case a => k_is); (case l => k_is); (case c => k_is); (case k => k_is)
      (case b => exact fun _ _ _ _ _ _ us hl => match us, hl with | [_], _ => rfl)
    have dRefused : K36.Dn (L2.KOf KX) "_law_refused" K36.sRefused ["_law_error_here", "_law_due", "_law_place"] := by
      dsimp only [L2.KOf]
      refine' K36.Dn.mk' ?a ?l ?c ?k ?b
      (case a => k_is); (case l => k_is); (case c => k_is); (case k => k_is)
      (case b => exact fun _ _ _ _ _ _ us hl => match us, hl with | [_, _, _], _ => rfl)
    have dOddPh : K36.Dn (L2.KOf KX) "_law_odd_phial" K36.sOddPh ["_law_many", "_law_way", "_law_far"] := by
      dsimp only [L2.KOf]
      refine' K36.Dn.mk' ?a ?l ?c ?k ?b
      (case a => k_is); (case l => k_is); (case c => k_is); (case k => k_is)
      (case b => exact fun _ _ _ _ _ _ us hl => match us, hl with | [_, _, _], _ => rfl)
    have dOddMu : K36.Dn (L2.KOf KX) "_law_odd_much" K36.sOddMu ["_law_way", "_law_far"] := by
      dsimp only [L2.KOf]
      refine' K36.Dn.mk' ?a ?l ?c ?k ?b
      (case a => k_is); (case l => k_is); (case c => k_is); (case k => k_is)
      (case b => exact fun _ _ _ _ _ _ us hl => match us, hl with | [_, _], _ => rfl)
    have dSpoil : K36.Dn (L2.KOf KX) "_law_spoiled" K36.sSpoil ["_law_bench_here", "_law_row_here", "_law_way", "_law_far"] := by
      dsimp only [L2.KOf]
      refine' K36.Dn.mk' ?a ?l ?c ?k ?b
      (case a => k_is); (case l => k_is); (case c => k_is); (case k => k_is)
      (case b => exact fun _ _ _ _ _ _ us hl => match us, hl with | [_, _, _, _], _ => rfl)
    have dErr : K36.Dn (L2.KOf KX) "_law_error" K36.sErr ["_law_way", "_law_bench_here", "_law_state", "_law_row_here", "_law_ahead"] := by
      dsimp only [L2.KOf]
      refine' K36.Dn.mk' ?a ?l ?c ?k ?b
      (case a => k_is); (case l => k_is); (case c => k_is); (case k => k_is)
      (case b => exact fun _ _ _ _ _ _ us hl => match us, hl with | [_, _, _, _, _], _ => rfl)
    have z0 : PySem.W.nsIn (L2.KOf KX) mainGlobals "isinstance" = some none := by
      dsimp only [L2.KOf]
      k_is
    have z1 : PySem.W.nsIn (L2.KOf KX) mainGlobals "int" = some none := by
      dsimp only [L2.KOf]
      k_is
    have z2 : PySem.W.nsIn (L2.KOf KX) mainGlobals "bool" = some none := by
      dsimp only [L2.KOf]
      k_is
    have z3 : PySem.W.nsIn (L2.KOf KX) mainGlobals "tuple" = some none := by
      dsimp only [L2.KOf]
      k_is
    have z4 : PySem.W.nsIn (L2.KOf KX) mainGlobals "str" = some none := by
      dsimp only [L2.KOf]
      k_is
    have z5 : PySem.W.nsIn (L2.KOf KX) mainGlobals "len" = some none := by
      dsimp only [L2.KOf]
      k_is
    have z6 : PySem.W.nsIn (L2.KOf KX) mainGlobals "range" = some none := by
      dsimp only [L2.KOf]
      k_is
    have z7 : PySem.W.nsIn (L2.KOf KX) mainGlobals "min" = some none := by
      dsimp only [L2.KOf]
      k_is
    have z8 : PySem.W.nsIn (L2.KOf KX) mainGlobals "max" = some none := by
      dsimp only [L2.KOf]
      k_is
    have z9 : PySem.W.nsIn (L2.KOf KX) mainGlobals "abs" = some none := by
      dsimp only [L2.KOf]
      k_is
    have z10 : PySem.W.nsIn (L2.KOf KX) mainGlobals "list" = some none := by
      dsimp only [L2.KOf]
      k_is
    have z11 : PySem.W.nsIn (L2.KOf KX) mainGlobals "sorted" = some none := by
      dsimp only [L2.KOf]
      k_is
    have z12 : PySem.W.nsIn (L2.KOf KX) mainGlobals "zip" = some none := by
      dsimp only [L2.KOf]
      k_is
    have z13 : PySem.W.nsIn (L2.KOf KX) mainGlobals "set" = some none := by
      dsimp only [L2.KOf]
      k_is
    have z14 : PySem.W.nsIn (L2.KOf KX) mainGlobals "all" = some none := by
      dsimp only [L2.KOf]
      k_is
    have z15 : PySem.W.nsIn (L2.KOf KX) mainGlobals "enumerate" = some none := by
      dsimp only [L2.KOf]
      k_is
    have z16 : PySem.W.nsIn (L2.KOf KX) mainGlobals "ValueError" = some none := by
      dsimp only [L2.KOf]
      k_is
    have nou : ∃ aN : Addr, K36.NouK (L2.KOf KX) aN := by
      dsimp only [L2.KOf]
      refine' K36.NouK.mk' ?a ?l
      (case a => k_is); (case l => k_is)
    have one : ∃ aO : Addr, K36.OneK (L2.KOf KX) aO := by
      dsimp only [L2.KOf]
      refine' K36.OneK.mk' ?a ?l
      (case a => k_is); (case l => k_is)
    have err : ∃ cP c0 c1 c2 c3 c4 c5 fI : Addr, K36.ErDK (L2.KOf KX) cP c0 c1 c2 c3 c4 c5 fI := by
      dsimp only [L2.KOf]
      refine' K36.err_mk ?mP ?m0 ?m1 ?m2 ?m3 ?m4 ?m5 ?lk ?ni ⟨⟨?xi, ?xf, ?xk, ⟨?xa, ?xb, ?xc, ?xd, ?xe, ?xg⟩⟩, ?sa, ?nn⟩ ⟨?y1, ?y2, ?y3⟩ ⟨?b1, ?b2, ?b3⟩ ?s ?iV ?i0 ?i1 ?i2 ?i3 ?i4 ?i5 (K36.fn_mkI ?l ?c ?k)
      (case mP => k_is); (case m0 => k_is); (case m1 => k_is); (case m2 => k_is); (case m3 => k_is); (case m4 => k_is); (case m5 => k_is)
      (case lk => k_is); (case ni => k_is); (case xi => first | kernel_rfl | rfl); (case xf => k_is); (case xk => k_is)
      (case xa => k_is); (case xb => k_is); (case xc => k_is); (case xd => k_is); (case xe => k_is); (case xg => (show PySem.W.isClsIn _ _ = true; k_is)); (case sa => k_is); (case nn => k_is)
      (case y1 => k_is); (case y2 => (show PySem.W.isClsIn _ _ = true; k_is)); (case y3 => k_is); (case b1 => k_is); (case b2 => k_is); (case b3 => k_is)
      (case s => k_is); (case iV => kit_is)
      (case i0 => kit_is); (case i1 => kit_is); (case i2 => kit_is); (case i3 => kit_is); (case i4 => kit_is); (case i5 => kit_is)
      (case l => k_is); (case c => k_is); (case k => k_is)
    have forms : ∃ (aF : Addr) (f : Str → Option Addr), K36.FormsW w (L2.KOf KX) aF f := by
      dsimp only [L2.KOf]
      refine' K36.forms_mk ?m ?lo ?l ?k (K36.sq3 ?s0) (K36.sq3 ?s1) (K36.sq3 ?s2) (K36.sq1 ?s3) (K36.sq1 ?s4)
      (case m => k_is); (case lo => decide); (case l => k_is); (case k => k_keys)
      (case s0 => k_is); (case s1 => k_is); (case s2 => k_is); (case s3 => k_is); (case s4 => k_is)
    have cls : ∃ cD CD CF CP CE CR : Addr, K36.AllC (L2.KOf KX) cD CD CF CP CE CR := by
      dsimp only [L2.KOf]
      refine' K36.allc_mk ?mD ⟨?gDraw, (K36.na3 ?n0Draw ?n1Draw ?n2Draw), ⟨⟨?pgDraw, ?hdDraw, ?poDraw, ?saDraw⟩, ?haDraw, ?hnDraw, ?htDraw, ?hmDraw⟩, ?kDraw, ?mkDraw, ?kcDraw, K36.MDn.mk' ?IaDraw ?IiDraw ?IlDraw ?IcDraw ?IkDraw ?IbDraw, K36.MDn.mk' ?TaDraw ?TiDraw ?TlDraw ?TcDraw ?TkDraw ?TbDraw⟩ ⟨?gFill, (K36.na3 ?n0Fill ?n1Fill ?n2Fill), ⟨⟨?pgFill, ?hdFill, ?poFill, ?saFill⟩, ?haFill, ?hnFill, ?htFill, ?hmFill⟩, ?kFill, ?mkFill, ?kcFill, K36.MDn.mk' ?IaFill ?IiFill ?IlFill ?IcFill ?IkFill ?IbFill, K36.MDn.mk' ?TaFill ?TiFill ?TlFill ?TcFill ?TkFill ?TbFill⟩ ⟨?gPour, (K36.na3 ?n0Pour ?n1Pour ?n2Pour), ⟨⟨?pgPour, ?hdPour, ?poPour, ?saPour⟩, ?haPour, ?hnPour, ?htPour, ?hmPour⟩, ?kPour, ?mkPour, ?kcPour, K36.MDn.mk' ?IaPour ?IiPour ?IlPour ?IcPour ?IkPour ?IbPour, K36.MDn.mk' ?TaPour ?TiPour ?TlPour ?TcPour ?TkPour ?TbPour⟩ ⟨?gEmpty, (K36.na1 ?n0Empty), ⟨⟨?pgEmpty, ?hdEmpty, ?poEmpty, ?saEmpty⟩, ?haEmpty, ?hnEmpty, ?htEmpty, ?hmEmpty⟩, ?kEmpty, ?mkEmpty, ?kcEmpty, K36.MDn.mk' ?IaEmpty ?IiEmpty ?IlEmpty ?IcEmpty ?IkEmpty ?IbEmpty, K36.MDn.mk' ?TaEmpty ?TiEmpty ?TlEmpty ?TcEmpty ?TkEmpty ?TbEmpty⟩ ⟨?gRinse, (K36.na1 ?n0Rinse), ⟨⟨?pgRinse, ?hdRinse, ?poRinse, ?saRinse⟩, ?haRinse, ?hnRinse, ?htRinse, ?hmRinse⟩, ?kRinse, ?mkRinse, ?kcRinse, K36.MDn.mk' ?IaRinse ?IiRinse ?IlRinse ?IcRinse ?IkRinse ?IbRinse, K36.MDn.mk' ?TaRinse ?TiRinse ?TlRinse ?TcRinse ?TkRinse ?TbRinse⟩ (K36.MDn.mk' ?oa ?oi ?ol ?oc ?ok ?ob)
      (case mD => k_is)
      (case gDraw => k_is); (case n0Draw => k_is); (case n1Draw => k_is); (case n2Draw => k_is); (case pgDraw => k_is); (case hdDraw => k_is); (case poDraw => k_is); (case saDraw => k_is); (case haDraw => k_is); (case hnDraw => k_is); (case htDraw => k_is); (case hmDraw => k_is); (case kDraw => kit_is); (case mkDraw => k_is); (case kcDraw => k_is)
      (case IaDraw => k_is); (case IiDraw => k_is); (case IlDraw => k_is); (case IcDraw => k_is); (case IkDraw => k_is); (case TaDraw => k_is); (case TiDraw => k_is); (case TlDraw => k_is); (case TcDraw => k_is); (case TkDraw => k_is)
      (case IbDraw => exact fun _ _ _ _ _ _ us hl => match us, hl with | [_, _, _, _], _ => rfl)
      (case TbDraw => exact fun _ _ _ _ _ _ us hl => match us, hl with | [_], _ => rfl)
      (case gFill => k_is); (case n0Fill => k_is); (case n1Fill => k_is); (case n2Fill => k_is); (case pgFill => k_is); (case hdFill => k_is); (case poFill => k_is); (case saFill => k_is); (case haFill => k_is); (case hnFill => k_is); (case htFill => k_is); (case hmFill => k_is); (case kFill => kit_is); (case mkFill => k_is); (case kcFill => k_is)
      (case IaFill => k_is); (case IiFill => k_is); (case IlFill => k_is); (case IcFill => k_is); (case IkFill => k_is); (case TaFill => k_is); (case TiFill => k_is); (case TlFill => k_is); (case TcFill => k_is); (case TkFill => k_is)
      (case IbFill => exact fun _ _ _ _ _ _ us hl => match us, hl with | [_, _, _, _], _ => rfl)
      (case TbFill => exact fun _ _ _ _ _ _ us hl => match us, hl with | [_], _ => rfl)
      (case gPour => k_is); (case n0Pour => k_is); (case n1Pour => k_is); (case n2Pour => k_is); (case pgPour => k_is); (case hdPour => k_is); (case poPour => k_is); (case saPour => k_is); (case haPour => k_is); (case hnPour => k_is); (case htPour => k_is); (case hmPour => k_is); (case kPour => kit_is); (case mkPour => k_is); (case kcPour => k_is)
      (case IaPour => k_is); (case IiPour => k_is); (case IlPour => k_is); (case IcPour => k_is); (case IkPour => k_is); (case TaPour => k_is); (case TiPour => k_is); (case TlPour => k_is); (case TcPour => k_is); (case TkPour => k_is)
      (case IbPour => exact fun _ _ _ _ _ _ us hl => match us, hl with | [_, _, _, _], _ => rfl)
      (case TbPour => exact fun _ _ _ _ _ _ us hl => match us, hl with | [_], _ => rfl)
      (case gEmpty => k_is); (case n0Empty => k_is); (case pgEmpty => k_is); (case hdEmpty => k_is); (case poEmpty => k_is); (case saEmpty => k_is); (case haEmpty => k_is); (case hnEmpty => k_is); (case htEmpty => k_is); (case hmEmpty => k_is); (case kEmpty => kit_is); (case mkEmpty => k_is); (case kcEmpty => k_is)
      (case IaEmpty => k_is); (case IiEmpty => k_is); (case IlEmpty => k_is); (case IcEmpty => k_is); (case IkEmpty => k_is); (case TaEmpty => k_is); (case TiEmpty => k_is); (case TlEmpty => k_is); (case TcEmpty => k_is); (case TkEmpty => k_is)
      (case IbEmpty => exact fun _ _ _ _ _ _ us hl => match us, hl with | [_, _], _ => rfl)
      (case TbEmpty => exact fun _ _ _ _ _ _ us hl => match us, hl with | [_], _ => rfl)
      (case gRinse => k_is); (case n0Rinse => k_is); (case pgRinse => k_is); (case hdRinse => k_is); (case poRinse => k_is); (case saRinse => k_is); (case haRinse => k_is); (case hnRinse => k_is); (case htRinse => k_is); (case hmRinse => k_is); (case kRinse => kit_is); (case mkRinse => k_is); (case kcRinse => k_is)
      (case IaRinse => k_is); (case IiRinse => k_is); (case IlRinse => k_is); (case IcRinse => k_is); (case IkRinse => k_is); (case TaRinse => k_is); (case TiRinse => k_is); (case TlRinse => k_is); (case TcRinse => k_is); (case TkRinse => k_is)
      (case IbRinse => exact fun _ _ _ _ _ _ us hl => match us, hl with | [_, _], _ => rfl)
      (case TbRinse => exact fun _ _ _ _ _ _ us hl => match us, hl with | [_], _ => rfl)
      (case oa => k_is); (case oi => k_is); (case ol => k_is); (case oc => k_is); (case ok => k_is)
      (case ob => exact fun _ _ _ _ _ _ us hl => match us, hl with | [_, _, _, _], _ => rfl)
    have mM : ∃ tk : Tok, PySem.W.nsIn (L2.KOf KX) mainGlobals "MOST_LETTERS" = some (some (.int 8 tk)) := by
      dsimp only [L2.KOf]
      refine' K36.mst_mk ?a
      (case a => k_is)
    have mL : ∃ tk : Tok, PySem.W.nsIn (L2.KOf KX) mainGlobals "LETTERS" = some (some (.str TM.LET tk)) := by
      dsimp only [L2.KOf]
      refine' K36.fgs_mk ?a ?e
      (case a => k_is); (case e => decide +kernel)
    refine' K36.all_mk KX G hmg ⟨dIsWh, dGcd, dIsAm, dLess, dIsWare, dWithPh, dDeedOf, dDeedAt, dIsRow, dOfKind, dDone, dDoneAt, dWalked, dSpoilt, dFirstR, dCell, dMixed, dWhole, dLowest, dDigit, dNames, dWares, dMuch, dApart, dFree, dBench, dFreeRow, dRow, dKind, dRefused, dOddPh, dOddMu, dSpoil, dErr, z0, z1, z2, z3, z4, z5, z6, z7, z8, z9, z10, z11, z12, z13, z14, z15, z16, nou, one, err, forms, cls, mM, mL⟩ ?a4 ?l4 ?c4 ?k4
    (case a4 => k_is); (case l4 => k_is); (case c4 => k_is); (case k4 => k_is)

