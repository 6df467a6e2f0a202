import PyProof.Rows.All
import Wide.All
import OpenK.AllK
import Wide.FinOn
import Lean
import PyProof.EqAt
import PyProof.EqKinds
import PyProof.TupleCall
import PySem.Challenge.RW_phialhouse_k31_what_is_a_bench
set_option Elab.async false
set_option linter.all false
set_option maxRecDepth 100000
set_option maxHeartbeats 4000000
/-! THE HAND LAYER, for ints, bools, texts, own classes, LISTS and tuples (index, slices, in, append, pop ..), calls, loops. Paste it whole ahead of your own text; what your proof does not reach may be deleted. -/
namespace L2
open PySem PySem.Spec PyProof.Rows

/-- a key: an int or a str -/
abbrev Key := Sum Int Str
def keyIs : Key → Value → Bool
  | .inl k, v => Value.isInt k v
  | .inr x, v => Value.isStrOf x v
def keyH (w : World) : Key → Int
  | .inl k => hashInt k
  | .inr x => hashStr w x
theorem keyIs_shape : ∀ {k : Key} {v : Value}, keyIs k v = true → (∃ i t, k = Sum.inl i ∧ v = Value.int i t) ∨ (∃ x t, k = Sum.inr x ∧ v = Value.str x t)
  | .inl i, v, h => by
    obtain ⟨t, e⟩ := Value.isInt_shape (k := i) (v := v) h
    exact .inl ⟨i, t, rfl, e⟩
  | .inr x, v, h => by
    obtain ⟨t, e⟩ := Value.isStrOf_shape (x := x) (v := v) h
    exact .inr ⟨x, t, rfl, e⟩
theorem key_ll (a b : Int) : decide ((Sum.inl a : Key) = Sum.inl b) = (a == b) := by
  by_cases e : a = b
  · subst e; simp
  · have h : ¬ (Sum.inl a : Key) = Sum.inl b := fun q => e (Sum.inl.inj q)
    rw [decide_eq_false h]
    exact (beq_eq_false_iff_ne.mpr e).symm
theorem key_rr (a b : Str) : decide ((Sum.inr a : Key) = Sum.inr b) = decide (a = b) := by
  by_cases e : a = b
  · subst e; simp
  · have h : ¬ (Sum.inr a : Key) = Sum.inr b := fun q => e (Sum.inr.inj q)
    rw [decide_eq_false h, decide_eq_false e]
theorem key_lr (a : Int) (b : Str) : decide ((Sum.inl a : Key) = Sum.inr b) = false := decide_eq_false (fun q => nomatch q)
theorem key_rl (a : Str) (b : Int) : decide ((Sum.inr a : Key) = Sum.inl b) = false := decide_eq_false (fun q => nomatch q)

def mixKind (prog : Program) (w : World) : PySem.KeyKind prog w Key where
  is := keyIs
  hash := keyH w
  inj := fun v a b ha hb => by
    rcases keyIs_shape ha with ⟨i, t, rfl, rfl⟩ | ⟨x, t, rfl, rfl⟩
    · rcases keyIs_shape hb with ⟨j, u, rfl, e⟩ | ⟨y, u, rfl, e⟩
      · injection e with e1 _; rw [e1]
      · exact nomatch e
    · rcases keyIs_shape hb with ⟨j, u, rfl, e⟩ | ⟨y, u, rfl, e⟩
      · exact nomatch e
      · injection e with e1 _; rw [e1]
  byValue := fun k v h => by
    rcases keyIs_shape h with ⟨i, t, rfl, rfl⟩ | ⟨x, t, rfl, rfl⟩ <;> rfl
  pyHash := fun hv h => by
    rcases keyIs_shape hv with ⟨i, t, rfl, rfl⟩ | ⟨x, t, rfl, rfl⟩
    · exact wpAny_pyHash_int h
    · exact wpAny_pyHash_str h
  eqBool := fun hu hv h => by
    rcases keyIs_shape hu with ⟨i, t, rfl, rfl⟩ | ⟨x, t, rfl, rfl⟩
    · rcases keyIs_shape hv with ⟨j, u, rfl, rfl⟩ | ⟨y, u, rfl, rfl⟩
      · rw [key_ll] at h; exact wpAny_eqBool_int h
      · rw [key_lr] at h; exact SeqAt.EqAt.int_str i t y u _ _ _ _ h
    · rcases keyIs_shape hv with ⟨j, u, rfl, rfl⟩ | ⟨y, u, rfl, rfl⟩
      · rw [key_rl] at h; exact SeqAt.EqAt.str_int x t j u _ _ _ _ h
      · rw [key_rr] at h; exact wpAny_eqBool_str h
  «strs» := fun k x t v h => by
    rcases keyIs_shape h with ⟨i, u, rfl, e⟩ | ⟨y, u, rfl, e⟩
    · exact nomatch e
    · injection e with e1 _
      subst e1
      cases v <;> rfl

end L2

namespace L2
open PySem PySem.Spec PyProof.Rows

/-- a value, without the heap -/
inductive V where
  | non | bl (b : Bool) | int (i : Int) | str (x : Str) | byt (b : Array UInt8) | flt (b : UInt64) | ref (a : Addr) | ty (n : String)
  deriving DecidableEq

def RelV : V → Value → Prop
  | .non, u => u = Value.none
  | .bl b, u => u = Value.bool b
  | .int i, u => ∃ t, u = Value.int i t
  | .str x, u => ∃ t, u = Value.str x t
  | .byt b, u => ∃ t, u = Value.bytes b t
  | .flt b, u => ∃ t, u = Value.float b t
  | .ref a, u => u = Value.ref a
  | .ty n, u => u = Value.type n

abbrev Vals : List V → List Value → Prop := Paired RelV
theorem Vals.length {xs : List V} {us : List Value} (r : Vals xs us) : xs.length = us.length := Paired.length r
theorem Vals.get : ∀ {xs : List V} {us : List Value} {i : Nat} {x : V}, Vals xs us → xs[i]? = some x → ∃ u, us[i]? = some u ∧ RelV x u
  | _, _, _, _, .nil, e => by simp at e
  | _, _, 0, _, .cons r _, e => by simp at e; subst e; exact ⟨_, rfl, r⟩
  | _, _, i + 1, x, .cons _ t, e => by
    obtain ⟨u, h1, h2⟩ := Vals.get (i := i) (x := x) t (by simpa using e)
    exact ⟨u, by simpa using h1, h2⟩
theorem Vals.set {x : V} {u : Value} (r : RelV x u) : ∀ {xs : List V} {us : List Value} (i : Nat), Vals xs us → Vals (xs.set i x) (us.set i u)
  | _, _, _, .nil => .nil
  | _, _, 0, .cons _ t => .cons r t
  | _, _, i + 1, .cons q t => .cons q (Vals.set r i t)
theorem Vals.append : ∀ {xs ys : List V} {us ws : List Value}, Vals xs us → Vals ys ws → Vals (xs ++ ys) (us ++ ws)
  | _, _, _, _, .nil, s => s
  | _, _, _, _, .cons r t, s => .cons r (Vals.append t s)
theorem Vals.take : ∀ {xs : List V} {us : List Value} (n : Nat), Vals xs us → Vals (xs.take n) (us.take n)
  | _, _, 0, _ => .nil
  | _, _, _ + 1, .nil => .nil
  | _, _, n + 1, .cons r t => .cons r (Vals.take n t)
theorem Vals.drop : ∀ {xs : List V} {us : List Value} (n : Nat), Vals xs us → Vals (xs.drop n) (us.drop n)
  | _, _, 0, r => r
  | _, _, _ + 1, .nil => .nil
  | _, _, n + 1, .cons _ t => Vals.drop n t
def RelO : Option V → Option Value → Prop
  | some v, some u => RelV v u
  | none, none => True
  | _, _ => False
def KV {κ : Type} : List (κ × V) → List (κ × Value) → Prop := Paired fun (p : κ × V) (q : κ × Value) => p.1 = q.1 ∧ RelV p.2 q.2

/-- a key of a dict (00_mix): an int or a text -/
def kV : Key → V
  | .inl i => .int i
  | .inr x => .str x

/-- what stands at a tracked address -/
inductive HO where
  /-- a list -/
  | lst (xs : List V)
  /-- a tuple (never changes) -/
  | tup (xs : List V)
  /-- a dict whose keys are ints and texts; one whose keys are tuples of ints and texts (the empty one is both) -/
  | dK (kvs : List (Key × V)) | dT (kvs : List (List Key × V))
  /-- a set of ints: its members, its size -/
  | set (S : Int → Bool) (n : Nat)
  /-- an instance of the class at C, its dict at dx, its attributes -/
  | ins (C dx : Addr) (fs : List (Str × V))
  /-- the dict of the instance at x -/
  | own (x : Addr)
  /-- the dict of an exception -/
  | xd (fs : List (Str × V))
  /-- a bound method, f of x -/
  | met (f x : Addr)
  /-- a range object lo, lo + 1, .. below hi -/
  | rng (lo hi : Int)
  /-- a thing that is known to the object (the script; a dict while a loop walks it): read, never written while it is so -/
  | frz (o : Obj) (u : HO)
  /-- a code object's table -/
  | tbl (ps : Array Value)
  /-- any other thing, by what is true of its one object (a def of one's own: SetO a S n := HO.ext fun h => ..) -/
  | ext (φ : Heap → Prop)

abbrev Hp := Addr → Option HO
def upd (H : Hp) (a : Addr) (o : HO) : Hp := fun b => if b = a then some o else H b
theorem upd_same {H : Hp} {a : Addr} {o : HO} : upd H a o a = some o := by unfold upd; rw [if_pos rfl]
theorem upd_ne {H : Hp} {a b : Addr} {o : HO} (h : b ≠ a) : upd H a o b = H b := by unfold upd; rw [if_neg h]
theorem ne_of_none {H : Hp} {a b : Addr} {o : HO} (h : H a = some o) (h' : H b = none) : a ≠ b := by
  intro e; subst e; rw [h] at h'; cases h'

section
variable (P : Program) (w : World)
def ObjOk (H : Hp) (h : Heap) (a : Addr) : HO → Prop
  | .lst xs => xs.length ≤ sizeLine ∧ ∃ (its : List Value) (n : Nat), Vals xs its ∧ h.get? a = some { cls := .type "list", data := .seq its.toArray n }
  | .tup xs => xs.length ≤ sizeLine ∧ ∃ its : List Value, Vals xs its ∧ IsTup h a its.toArray
  | .dK kvs => kvs.length ≤ sizeLine ∧ (a == sysModules) = false ∧ ∃ vs, KV kvs vs ∧ h.DictOf (mixKind P w) a vs
  | .dT kvs => kvs.length ≤ sizeLine ∧ (a == sysModules) = false ∧ ∃ xs : List (List Key × Addr × Value),
      Paired (fun (p : List Key × V) (q : List Key × Addr × Value) => p.1 = q.1 ∧ H q.2.1 = some (.tup (p.1.map kV)) ∧ RelV p.2 q.2.2) kvs xs ∧
      ∃ o es ep, h.get? a = some o ∧ o.ExactDict ∧ o.data = .dict es ep ∧ es.toList = xs.map (entryOfKey (tupleKind (mixKind P w))) ∧ (xs.map (·.1)).Nodup
  | .set S n => h.SetOf (intKind P w) a S n
  | .ins C dx fs => H dx = some (.own a) ∧ fs.length ≤ 1000 ∧ dx ≠ a ∧ h.get? a = some (PySem.W.instObj C dx) ∧
      ∃ mA, h.Ns1 dx mA ∧ (∀ f, RelO (fs.lookup f) (mA f)) ∧ PySem.Within mA (fs.map (·.1))
  | .own _ => ∃ o, h.get? a = some o
  | .xd fs => ∃ mA, h.Ns1 a mA ∧ ∀ f, RelO (fs.lookup f) (mA f)
  | .rng lo hi => ∃ t u v, h.get? a = some { cls := .type "range", data := .fields #[.int lo t, .int hi u, .int 1 v] }
  | .frz o u => h.get? a = some o ∧ ObjOk H h a u
  | .tbl ps => h.get? a = some { cls := .none, data := .fields ps }
  | .met f x => h.get? a = some (PySem.W.methodObj (.ref f) (.ref x))
  | .ext φ => φ h ∧ (∃ o, h.get? a = some o) ∧ ∀ h1 h2 : Heap, φ h1 → (∀ o, h1.get? a = some o → h2.get? a = some o) → φ h2
/-- the abstract heap is held -/
def HOk (H : Hp) (h : Heap) : Prop := ∀ a o, H a = some o → ObjOk P w H h a o
end

section
variable {P : Program} {w : World} {H H' : Hp} {h h' : Heap} {a : Addr} {o : HO}
theorem ObjOk.lt (x : ObjOk P w H h a o) : a < h.objs.size := by
  cases o with
  | lst xs => obtain ⟨_, _, _, _, e⟩ := x; exact Heap.lt_size e
  | tup xs => obtain ⟨_, _, _, p⟩ := x; exact p.lt
  | dK kvs => obtain ⟨_, _, _, _, o, _, _, e, _⟩ := x; exact Heap.lt_size e
  | dT kvs => obtain ⟨_, _, _, _, o, _, _, e, _⟩ := x; exact Heap.lt_size e
  | set S n => obtain ⟨o, _, _, _, e, _⟩ := x; exact Heap.lt_size e
  | ins C dx fs => obtain ⟨_, _, _, e, _⟩ := x; exact Heap.lt_size e
  | own y => obtain ⟨_, e⟩ := x; exact Heap.lt_size e
  | xd fs => obtain ⟨_, ⟨_, _, _, e, _⟩, _⟩ := x; exact Heap.lt_size e
  | rng lo hi => obtain ⟨_, _, _, e⟩ := x; exact Heap.lt_size e
  | frz ob u => obtain ⟨e, _⟩ := x; exact Heap.lt_size e
  | tbl ps => exact Heap.lt_size (show h.get? a = some _ from x)
  | met f y => exact Heap.lt_size (show h.get? a = some _ from x)
  | ext φ => obtain ⟨_, ⟨_, e⟩, _⟩ := x; exact Heap.lt_size e
theorem Paired.mapP {α β : Type} {F G : α → β → Prop} : ∀ {l₁ : List α} {l₂ : List β}, Paired F l₁ l₂ → (∀ a b, F a b → G a b) → Paired G l₁ l₂
  | _, _, .nil, _ => .nil
  | _, _, .cons r t, f => .cons (f _ _ r) (Paired.mapP t f)
/-- what an object's description leans on: its own object, its own dict, the tuples -/
theorem ObjOk.stay (x : ObjOk P w H h a o) (k : ∀ b u, (b = a ∨ H b = some (.own a)) → h.get? b = some u → h'.get? b = some u)
    (ho : ∀ b, H b = some (.own a) → H' b = some (.own a)) (ht : ∀ b xs, H b = some (.tup xs) → H' b = some (.tup xs)) : ObjOk P w H' h' a o := by
  induction o with
  | lst xs => obtain ⟨z, its, n, r, e⟩ := x; exact ⟨z, its, n, r, k _ _ (.inl rfl) e⟩
  | tup xs => obtain ⟨z, its, r, ob, e, c⟩ := x; exact ⟨z, its, r, ob, k _ _ (.inl rfl) e, c⟩
  | dK kvs => obtain ⟨z, y, vs, r, ob, es, ep, e, c⟩ := x; exact ⟨z, y, vs, r, ob, es, ep, k _ _ (.inl rfl) e, c⟩
  | dT kvs =>
    obtain ⟨z, y, xs, r, ob, es, ep, e, c⟩ := x
    exact ⟨z, y, xs, Paired.mapP r fun p q z => ⟨z.1, ht _ _ z.2.1, z.2.2⟩, ob, es, ep, k _ _ (.inl rfl) e, c⟩
  | set S n => obtain ⟨ob, es, ep, t, e, c⟩ := x; exact ⟨ob, es, ep, t, k _ _ (.inl rfl) e, c⟩
  | ins C dx fs =>
    obtain ⟨d, z, ne, e, mA, ⟨od, es, ep, e2, c⟩, r⟩ := x
    exact ⟨ho _ d, z, ne, k _ _ (.inl rfl) e, mA, ⟨od, es, ep, k _ _ (.inr d) e2, c⟩, r⟩
  | own y => obtain ⟨ob, e⟩ := x; exact ⟨ob, k _ _ (.inl rfl) e⟩
  | xd fs => obtain ⟨mA, ⟨od, es, ep, e, c⟩, r⟩ := x; exact ⟨mA, ⟨od, es, ep, k _ _ (.inl rfl) e, c⟩, r⟩
  | rng lo hi => obtain ⟨t, u, v, e⟩ := x; exact ⟨t, u, v, k _ _ (.inl rfl) e⟩
  | frz ob u ih => obtain ⟨e, q⟩ := x; exact ⟨k _ _ (.inl rfl) e, ih q⟩
  | tbl ps =>
    have e : h.get? a = some { cls := .none, data := .fields ps } := x
    show h'.get? a = some { cls := .none, data := .fields ps }
    exact k a _ (.inl rfl) e
  | met f y =>
    have e : h.get? a = some (PySem.W.methodObj (.ref f) (.ref y)) := x
    show h'.get? a = some (PySem.W.methodObj (.ref f) (.ref y))
    exact k a _ (.inl rfl) e
  | ext φ => obtain ⟨p, ⟨o, e⟩, st⟩ := x; exact ⟨st _ _ p fun o q => k _ _ (.inl rfl) q, ⟨o, k _ _ (.inl rfl) e⟩, st⟩
theorem HOk.lt (x : HOk P w H h) (e : H a = some o) : a < h.objs.size := (x a o e).lt
theorem HOk.fresh (x : HOk P w H h) (e : h.objs.size ≤ a) : H a = none := by
  cases q : H a with
  | none => rfl
  | some u => exact absurd (Nat.lt_of_lt_of_le (x.lt q) e) (Nat.lt_irrefl _)
/-- every object of the heap is kept -/
theorem HOk.kept (x : HOk P w H h) (k : ∀ b u, h.get? b = some u → h'.get? b = some u) : HOk P w H h' := fun a o e =>
  (x a o e).stay (fun b u _ q => k b u q) (fun _ q => q) fun _ _ q => q
/-- a new object is laid and tracked -/
theorem HOk.laid (x : HOk P w H h) (k : ∀ b u, h.get? b = some u → h'.get? b = some u) (hp : h.objs.size ≤ a) (new : ObjOk P w (upd H a o) h' a o) : HOk P w (upd H a o) h' := fun b u e => by
  have hn := x.fresh hp
  by_cases hb : b = a
  · subst hb; rw [upd_same] at e; cases e; exact new
  · rw [upd_ne hb] at e
    exact (x b u e).stay (fun c v _ q => k c v q) (fun c q => by rw [upd_ne (ne_of_none q hn)]; exact q) fun c xs q => by rw [upd_ne (ne_of_none q hn)]; exact q
end

/-- what may be read as u: it is u, or a known u -/
def Rd (H : Hp) (a : Addr) (u : HO) : Prop := H a = some u ∨ ∃ o, H a = some (.frz o u)
theorem Rd.ok {P : Program} {w : World} {H : Hp} {h : Heap} {a : Addr} {u : HO} (r : Rd H a u) (x : HOk P w H h) : ObjOk P w H h a u := by
  rcases r with r | ⟨o, r⟩
  · exact x a u r
  · obtain ⟨_, q⟩ := x a _ r
    exact q
/-- what may be written -/
def Mut : Option HO → Prop
  | some (.lst _) => True
  | some (.dK _) => True
  | some (.dT _) => True
  | some (.set _ _) => True
  | some (.ins _ _ _) => True
  | some (.ext _) => True
  | _ => False
section
variable {P : Program} {w : World} {H : Hp} {h h' : Heap} {x e : Addr} {o' : HO}
/-- the object at e is changed: x itself, or the dict of the instance x -/
theorem HOk.write (ok : HOk P w H h) (mu : Mut (H x)) (he : e = x ∨ H e = some (.own x)) (k : ∀ b u, b ≠ e → h.get? b = some u → h'.get? b = some u) (heo : ∃ u, h'.get? e = some u)
    (new : ObjOk P w (upd H x o') h' x o') : HOk P w (upd H x o') h' := fun b u q => by
  have nown : ∀ c y, H c = some (.own y) → c ≠ x := fun c y r z => by subst z; rw [r] at mu; exact mu
  have ntup : ∀ c xs, H c = some (.tup xs) → c ≠ x := fun c xs r z => by subst z; rw [r] at mu; exact mu
  by_cases hb : b = x
  · subst hb; rw [upd_same] at q; cases q; exact new
  · rw [upd_ne hb] at q
    by_cases hbe : b = e
    · have q' : H b = some (.own x) := by
        rcases he with z | z
        · exact absurd (hbe.trans z) hb
        · rw [hbe]; exact z
      rw [q] at q'; cases q'
      obtain ⟨v, hv⟩ := heo
      exact ⟨v, by rw [hbe]; exact hv⟩
    · refine (ok b u q).stay (fun c v hc r => k c v ?_ r) (fun c r => by rw [upd_ne (nown c b r)]; exact r) fun c xs r => by rw [upd_ne (ntup c xs r)]; exact r
      rcases hc with rfl | hc
      · exact hbe
      · rintro rfl
        rcases he with z | z
        · exact nown c b hc z
        · rw [hc] at z; cases z; exact hb rfl
end

/-! ### kept unless tracked; of the frames at fs (the callers') the slots may change (an exception that passes writes there); of the records at ex (iterators) nothing is said -/
structure Un (fs ex : List Addr) (H H' : Hp) (h h' : Heap) : Prop where
  keep : ∀ b o, h.get? b = some o → H b = none → b ∉ fs → b ∉ ex → h'.get? b = some o
  slot : ∀ b o, h.get? b = some o → H b = none → b ∈ fs → b ∉ ex → ∃ sl, h'.get? b = some { o with slots := sl }
  free : ∀ b o, h.get? b = some o → H b = none → b ∉ ex → H' b = none
  there : ∀ b o, h.get? b = some o → b ∉ ex → ∃ o', h'.get? b = some o'
  tups : ∀ b xs, H b = some (.tup xs) → H' b = some (.tup xs)
  frzs : ∀ b o u, H b = some (.frz o u) → H' b = some (.frz o u)
  tbls : ∀ b ps, H b = some (.tbl ps) → ∃ more, H' b = some (.tbl (ps ++ more))
section
variable {fs fs' ex ex' : List Addr} {H H1 H2 : Hp} {h h1 h2 h' : Heap} {a x e : Addr} {o : HO}
theorem Un.any (u : Un fs ex H H1 h h1) {b : Addr} {ob : Obj} (q : h.get? b = some ob) (n : H b = none) (hx : b ∉ ex) : ∃ sl, h1.get? b = some { ob with slots := sl } := by
  by_cases hb : b ∈ fs
  · exact u.slot b ob q n hb hx
  · exact ⟨ob.slots, u.keep b ob q n hb hx⟩
theorem Un.kept (k : ∀ b u, h.get? b = some u → h'.get? b = some u) : Un fs ex H H h h' :=
  ⟨fun b ob q _ _ _ => k b ob q, fun b ob q _ _ _ => ⟨ob.slots, k b ob q⟩, fun _ _ _ n _ => n, fun b ob q _ => ⟨ob, k b ob q⟩, fun _ _ q => q, fun _ _ _ q => q, fun _ ps q => ⟨#[], by rw [q]; simp⟩⟩
theorem Un.refl : Un fs ex H H h h := Un.kept fun _ _ q => q
theorem Un.laid (k : ∀ b u, h.get? b = some u → h'.get? b = some u) (hp : h.objs.size ≤ a) (hn : H a = none) : Un fs ex H (upd H a o) h h' where
  keep := fun b u q _ _ _ => k b u q
  slot := fun b u q _ _ _ => ⟨u.slots, k b u q⟩
  free := fun b u q n _ => by rw [upd_ne (Nat.ne_of_lt (Nat.lt_of_lt_of_le (Heap.lt_size q) hp))]; exact n
  there := fun b u q _ => ⟨u, k b u q⟩
  tups := fun b xs q => by rw [upd_ne (ne_of_none q hn)]; exact q
  frzs := fun b u xs q => by rw [upd_ne (ne_of_none q hn)]; exact q
  tbls := fun b ps q => ⟨#[], by rw [upd_ne (ne_of_none q hn), q]; simp⟩
theorem Un.write (mu : Mut (H x)) (he : e = x ∨ H e = some (.own x)) (k : ∀ b u, b ≠ e → h.get? b = some u → h'.get? b = some u) (heo : ∃ u, h'.get? e = some u) : Un fs ex H (upd H x o) h h' := by
  have hx : ∀ b, H b = none → b ≠ x := fun b n z => by subst z; rw [n] at mu; exact mu
  have hb : ∀ b, H b = none → b ≠ e := fun b n z => by
    subst z
    rcases he with r | r
    · exact hx b n r
    · rw [n] at r; cases r
  have hm : ∀ b u, H b = some u → ¬ Mut (some u) → b ≠ x := fun b u q nm z => by subst z; rw [q] at mu; exact nm mu
  refine ⟨fun b u q n _ _ => k b u (hb b n) q, fun b u q n _ _ => ⟨u.slots, k b u (hb b n) q⟩, fun b u q n _ => by rw [upd_ne (hx b n)]; exact n, fun b u q _ => ?_,
    fun b xs q => by rw [upd_ne (hm b _ q fun z => z)]; exact q, fun b u xs q => by rw [upd_ne (hm b _ q fun z => z)]; exact q, fun b ps q => ⟨#[], by rw [upd_ne (hm b _ q fun z => z), q]; simp⟩⟩
  by_cases hbe : b = e
  · subst hbe; exact heo
  · exact ⟨u, k b u hbe q⟩
end

/-! ### the heap without what is tracked -/
def trk (h : Heap) (H : Hp) : List Addr := (List.range h.objs.size).filter fun a => (H a).isSome
def hidT (h : Heap) (H : Hp) : Heap := PySem.W.hideAll h (trk h H)
theorem hidT_size (h : Heap) (H : Hp) : (hidT h H).objs.size = h.objs.size := PySem.W.hideAll_size _ _
theorem hidT_get {h : Heap} {H : Hp} {b : Addr} {o : Obj} (e : h.get? b = some o) (n : H b = none) : (hidT h H).get? b = some o :=
  PySem.W.hideAll_get _ e fun hm => by
    have q : (H b).isSome = true := (List.mem_filter.mp hm).2
    rw [n] at q; simp at q
theorem of_hidT {h : Heap} {H : Hp} {b : Addr} {o : Obj} (e : (hidT h H).get? b = some o) : h.get? b = some o ∧ H b = none := by
  have e' : h.get? b = some o := PySem.W.of_hideAll (trk h H) e
  refine ⟨e', ?_⟩
  cases q : H b with
  | none => rfl
  | some x =>
    have hm : b ∈ trk h H := List.mem_filter.mpr ⟨List.mem_range.mpr (Heap.lt_size e'), by simp [q]⟩
    have z : (hidT h H).get? b = none := PySem.W.hideAll_none (trk h H) hm
    rw [z] at e; cases e

/-! ### OpenK's ledger, filled with every new object but one -/
def allNews (g h : Heap) (L : Addr) : List (Addr × Obj) := (List.range h.objs.size).filterMap fun a => if a = L ∨ (g.get? a).isSome = true then none else (h.get? a).map fun o => (a, o)
def rest (g h : Heap) (L d : Addr) : List (Addr × Obj) := (allNews g h L).filter fun p => decide (p.1 ≠ d)
end L2

namespace L2
open PySem PySem.Spec PyProof.Rows

/-- the module's facts, over the base: the heap at the law's entry without what is tracked there -/
structure Mod (K : PySem.W.Frag) (mg : Str → Option Value) (base : Heap) : Prop where
  kin : K.In base
  glob : base.Ns mainGlobals mg
  blt : ∃ mb, base.Ns builtinsNs mb ∧ ∀ x : Str, x ≠ "__name__" → mb x = bootBuiltins x
  nolimit : base.NoLimit

/-- the context: a def's body (or a comprehension's block) running. base: fixed through the whole law; s₀, H₀: the entry; outer: the frames whose slots others may change (a def's callers); stack: all frames that run;
   ex: iterators that were made ahead of the entry and are walked here (a comprehension's); fn: the names whose cells were made at the entry (a def: all; a comprehension's block: its own); calm: not within an except suite; pn: pins that every state bears; xe: what is wanted of an exception that leaves the code -/
structure Cx where
  prog : Program
  w : World
  K : PySem.W.Frag
  mg : Str → Option Value
  base : Heap
  A : Around
  N : List Str
  s₀ : Shared
  H₀ : Hp
  env : Env
  outer : List Env
  stack : List Env
  ex : List Addr
  fn : Str → Bool
  calm : Bool
  pn : List (Addr × Obj)
  xe : Value → Shared → Prop
/-- the callers' frames -/
def frs (l : List Env) : List Addr := l.filterMap (·.frame)
abbrev Cx.fs (X : Cx) : List Addr := frs X.outer

def Vis (sc : Scope) (x : Str) : Prop := sc.names.lookup x = some .local ∨ sc.names.lookup x = some .cell ∨ sc.names.lookup x = some .free
def Loc (sc : Scope) (x : Str) : Prop := sc.names.lookup x = some .local ∨ sc.names.lookup x = some .cell
def Look (env : Env) (h : Heap) (m : Str → Option Value) (x : Str) (u : Value) : Prop :=
  (env.kindOf x = some .local ∧ m x = some u) ∨ ((env.kindOf x = some .cell ∨ env.kindOf x = some .free) ∧ ∃ c, env.cells.lookup x = some c ∧ h.IsCell c (some u))

structure Cx.Ok (X : Cx) : Prop where
  mod : Mod X.K X.mg X.base
  kind : X.env.scope.kind = .function
  glob : X.env.globals = mainGlobals
  blt : X.env.builtins = builtinsNs
  above : X.s₀.heap.objs.size ≤ X.env.locals
  inj : ∀ x y c, X.env.cells.lookup x = some c → X.env.cells.lookup y = some c → x = y
  has : ∀ x, (X.env.kindOf x = some .cell ∨ X.env.kindOf x = some .free) → ∃ c, X.env.cells.lookup x = some c
  cab : ∀ x c, X.fn x = true → X.env.cells.lookup x = some c → X.s₀.heap.objs.size ≤ c
  hd : X.calm = true → X.A.handled = none
  frames : X.A.frames = some X.stack
  stk : X.stack = X.outer ∨ (X.stack = X.env :: X.outer ∧ X.env.frame = some X.env.locals)
  exf : ∀ b ∈ X.ex, b ≠ X.env.locals ∧ ∀ x c, X.env.cells.lookup x = some c → c ≠ b
  bs : ∀ b o, X.base.get? b = some o → X.s₀.heap.get? b = some o ∧ X.H₀ b = none
  bsz : X.base.objs.size ≤ X.s₀.heap.objs.size
  noex : ∀ b o, X.base.get? b = some o → b ∉ X.ex
  exfs : ∀ b ∈ X.ex, b ∉ X.fs
  funs : X.s₀.heap.FunFrames X.base X.outer
  frf : ∀ b ∈ X.fs, X.H₀ b = none

structure Inv (X : Cx) (pins : List (Addr × Obj)) (σ : List (Option V)) (H : Hp) (s : Shared) : Prop where
  ok : X.Ok
  os : s.os = X.s₀.os
  bare : AllBare s.gens
  base : Un X.fs X.ex X.H₀ H X.s₀.heap s.heap
  loc : ∃ m, s.heap.Ns X.env.locals m ∧ ∀ (i : Nat) (x : Str) (v : V), X.N[i]? = some x → σ[i]? = some (some v) → Vis X.env.scope x → ∃ u, RelV v u ∧ Look X.env s.heap m x u
  cell : ∀ x c, X.env.cells.lookup x = some c → ∃ v, s.heap.IsCell c v
  free : H X.env.locals = none
  freeC : ∀ x c, X.env.cells.lookup x = some c → H c = none
  pin : ∀ p ∈ X.pn ++ pins, s.heap.get? p.1 = some p.2 ∧ H p.1 = none ∧ p.1 ≠ X.env.locals ∧ p.1 ∉ X.fs ∧ ∀ v, p.2.data ≠ .cell v
  hok : HOk X.prog X.w H s.heap
  len : σ.length = X.N.length

section
variable {X : Cx} {pins : List (Addr × Obj)} {σ : List (Option V)} {H H' : Hp} {s : Shared} {h' : Heap}

theorem Cx.Ok.nofr (ok : X.Ok) {b : Addr} {o : Obj} (e : X.base.get? b = some o) : b ∉ X.fs := fun hb => by
  have := (ok.funs.mem hb).1
  rw [e] at this; cases this
theorem Inv.bs (I : Inv X pins σ H s) : ∀ b o, X.base.get? b = some o → s.heap.get? b = some o ∧ H b = none := fun b o e =>
  ⟨I.base.keep b o (I.ok.bs b o e).1 (I.ok.bs b o e).2 (I.ok.nofr e) (I.ok.noex b o e), I.base.free b o (I.ok.bs b o e).1 (I.ok.bs b o e).2 (I.ok.noex b o e)⟩
theorem Inv.bk (I : Inv X pins σ H s) : ∀ b o, X.base.get? b = some o → s.heap.get? b = some o := fun b o e => (I.bs b o e).1
theorem Inv.mod (I : Inv X pins σ H s) : Mod X.K X.mg X.base := I.ok.mod
theorem Inv.kIn (I : Inv X pins σ H s) : X.K.In s.heap := I.ok.mod.kin.keeps I.bk
/-- the frame over the base: for OpenK's rules (K.In X.base is I.mod.kin) -/
theorem Inv.fr (I : Inv X pins σ H s) : ∃ m, Fr X.base X.env.locals s.heap m :=
  let ⟨m, hn, _⟩ := I.loc
  ⟨m, hn, I.bk, Nat.le_trans I.ok.bsz I.ok.above⟩
theorem Inv.lt (I : Inv X pins σ H s) : X.env.locals < s.heap.objs.size := let ⟨_, hn, _⟩ := I.loc; hn.lt
theorem Inv.sz (I : Inv X pins σ H s) : X.s₀.heap.objs.size ≤ s.heap.objs.size := Nat.le_trans I.ok.above (Nat.le_of_lt I.lt)
theorem Inv.nofs (I : Inv X pins σ H s) {a : Addr} (h : s.heap.objs.size ≤ a) : a ∉ X.fs := fun hb => by
  obtain ⟨_, o, ho, _⟩ := I.ok.funs.mem hb
  exact absurd (Nat.lt_of_lt_of_le (Heap.lt_size ho) (Nat.le_trans I.sz h)) (Nat.lt_irrefl _)
theorem Inv.cne (I : Inv X pins σ H s) : ∀ x c, X.env.cells.lookup x = some c → c ≠ X.env.locals := fun x c e z => by
  obtain ⟨v, o, ho, hd⟩ := I.cell x c e
  obtain ⟨m, ⟨o', es, ep, ho', hd', _⟩, _⟩ := I.loc
  rw [z, ho'] at ho; cases ho; rw [hd'] at hd; cases hd
theorem Inv.funs (I : Inv X pins σ H s) : s.heap.FunFrames X.base X.outer := by
  have all : ∀ (l : List Env), (∀ b ∈ frs l, b ∈ X.fs) → X.s₀.heap.FunFrames X.base l → s.heap.FunFrames X.base l := by
    intro l
    induction l with
    | nil => intro _ _; trivial
    | cons env r ih =>
      intro hs hl
      obtain ⟨hk, ⟨L, o, hf, hn, ho, hd⟩, hr⟩ := hl
      have hL : L ∈ X.fs := hs L (by unfold frs; rw [List.filterMap_cons, hf]; exact List.mem_cons_self)
      obtain ⟨sl, e⟩ := I.base.slot L o ho (I.ok.frf L hL) hL fun z => I.ok.exfs L z hL
      exact ⟨hk, ⟨L, _, hf, hn, e, hd⟩, ih (fun b hb => hs b (by unfold frs; rw [List.filterMap_cons, hf]; exact List.mem_cons_of_mem _ hb)) hr⟩
  exact all X.outer (fun _ hb => hb) I.ok.funs

/-- the frames that run, for a call -/
theorem Inv.stack (I : Inv X pins σ H s) : s.heap.FunFrames X.base X.stack := by
  rcases I.ok.stk with e | ⟨e, hf⟩
  · rw [e]; exact I.funs
  · rw [e]
    obtain ⟨m, hn, _⟩ := I.loc
    refine .cons (by rw [I.ok.kind]; decide) hf hn ?_ I.funs
    exact Heap.get?_none_of_le (Nat.le_trans I.ok.bsz I.ok.above)
theorem Inv.stkSub (I : Inv X pins σ H s) : ∀ b ∈ frs X.stack, b ∈ X.env.locals :: X.fs := fun b hb => by
  rcases I.ok.stk with e | ⟨e, hf⟩
  · rw [e] at hb; exact List.mem_cons_of_mem _ hb
  · rw [e] at hb
    unfold frs at hb
    rw [List.filterMap_cons, hf] at hb
    exact hb
theorem Inv.stkFree (I : Inv X pins σ H s) : ∀ b ∈ frs X.stack, H b = none := fun b hb => by
  rcases List.mem_cons.mp (I.stkSub b hb) with e | hb
  · rw [e]; exact I.free
  · obtain ⟨_, o, ho, _⟩ := I.ok.funs.mem hb
    exact I.base.free b o ho (I.ok.frf b hb) fun z => I.ok.exfs b z hb

/-- THE STEP: the untracked objects but the frame and the records at ch are kept (the callers' frames up to slots), the frame's map is kept, the new abstract heap is held -/
theorem Inv.step {g' : Array GenState} {t' : Nat} {d' : Drawn} {ch : List Addr} (I : Inv X pins σ H s)
    (hch : ∀ b ∈ ch, (b ∈ X.ex ∨ X.s₀.heap.objs.size ≤ b) ∧ b ≠ X.env.locals ∧ (∀ x c, X.env.cells.lookup x = some c → c ≠ b) ∧ ∀ p ∈ X.pn ++ pins, p.1 ≠ b)
    (keep : ∀ b o, b ≠ X.env.locals → b ∉ X.fs → b ∉ ch → s.heap.get? b = some o → H b = none → h'.get? b = some o)
    (slot : ∀ b o, b ≠ X.env.locals → b ∈ X.fs → b ∉ ch → s.heap.get? b = some o → H b = none → ∃ sl, h'.get? b = some { o with slots := sl }) (free : ∀ b o, b ∉ ch → s.heap.get? b = some o → H b = none → H' b = none)
    (there : ∀ b o, b ∉ ch → s.heap.get? b = some o → ∃ o', h'.get? b = some o')
    (tups : ∀ b xs, H b = some (.tup xs) → H' b = some (.tup xs)) (frzs : ∀ b o u, H b = some (.frz o u) → H' b = some (.frz o u)) (tbls : ∀ b ps, H b = some (.tbl ps) → ∃ more, H' b = some (.tbl (ps ++ more)))
    (ns : ∀ m, s.heap.Ns X.env.locals m → h'.Ns X.env.locals m) (hok : HOk X.prog X.w H' h') (hg : AllBare g') :
    Inv X pins σ H' { s with heap := h', gens := g', drawn := d', toks := t' } := by
  have neL : ∀ b o, X.s₀.heap.get? b = some o → b ≠ X.env.locals := fun b o e => Nat.ne_of_lt (Nat.lt_of_lt_of_le (Heap.lt_size e) I.ok.above)
  have neC : ∀ b o, X.s₀.heap.get? b = some o → b ∉ X.ex → b ∉ ch := fun b o e hx hb => by
    rcases (hch b hb).1 with z | z
    · exact hx z
    · exact absurd (Nat.lt_of_lt_of_le (Heap.lt_size e) z) (Nat.lt_irrefl _)
  have cellK : ∀ x c, X.env.cells.lookup x = some c → ∀ v, s.heap.IsCell c v → h'.IsCell c v := fun x c e v ⟨o, ho, hd⟩ => by
    have nch : c ∉ ch := fun z => (hch c z).2.2.1 x c e rfl
    by_cases hc : c ∈ X.fs
    · obtain ⟨sl, q⟩ := slot c o (I.cne x c e) hc nch ho (I.freeC x c e)
      exact ⟨_, q, hd⟩
    · exact ⟨o, keep c o (I.cne x c e) hc nch ho (I.freeC x c e), hd⟩
  refine ⟨I.ok, I.os, hg, ⟨fun b o e n hb hx => ?_, fun b o e n hb hx => ?_, fun b o e n hx => ?_, fun b o e hx => ?_, fun b xs e => tups b xs (I.base.tups b xs e), fun b o xs e => frzs b o xs (I.base.frzs b o xs e), fun b ps e => ?_⟩, ?_, fun x c e => ?_, ?_, fun x c e => ?_, fun p hp => ?_, hok, I.len⟩
  · exact keep b o (neL b o e) hb (neC b o e hx) (I.base.keep b o e n hb hx) (I.base.free b o e n hx)
  · obtain ⟨sl, e1⟩ := I.base.slot b o e n hb hx
    obtain ⟨sl', e2⟩ := slot b _ (neL b o e) hb (neC b o e hx) e1 (I.base.free b o e n hx)
    exact ⟨sl', e2⟩
  · obtain ⟨o', e1⟩ := I.base.there b o e hx
    exact free b o' (neC b o e hx) e1 (I.base.free b o e n hx)
  · obtain ⟨o', e1⟩ := I.base.there b o e hx
    exact there b o' (neC b o e hx) e1
  · obtain ⟨m1, e1⟩ := I.base.tbls b ps e
    obtain ⟨m2, e2⟩ := tbls b _ e1
    exact ⟨m1 ++ m2, by rw [e2, Array.append_assoc]⟩
  · obtain ⟨m, hn, hl⟩ := I.loc
    refine ⟨m, ns m hn, fun i x v e1 e2 e3 => ?_⟩
    obtain ⟨u, r, l⟩ := hl i x v e1 e2 e3
    refine ⟨u, r, ?_⟩
    rcases l with l | ⟨k, c, e, z⟩
    · exact .inl l
    · exact .inr ⟨k, c, e, cellK x c e _ z⟩
  · obtain ⟨v, z⟩ := I.cell x c e
    exact ⟨v, cellK x c e v z⟩
  · obtain ⟨m, ⟨o, _, _, ho, _⟩, _⟩ := I.loc
    exact free _ o (fun z => (hch _ z).2.1 rfl) ho I.free
  · obtain ⟨v, o, ho, hd⟩ := I.cell x c e
    exact free c o (fun z => (hch c z).2.2.1 x c e rfl) ho (I.freeC x c e)
  · obtain ⟨e, n, ne, nf, d⟩ := I.pin p hp
    have nch : p.1 ∉ ch := fun z => (hch p.1 z).2.2.2 p hp rfl
    exact ⟨keep p.1 p.2 ne nf nch e n, free p.1 p.2 nch e n, ne, nf, d⟩
/-- .. where the frame's own object is kept too -/
theorem Inv.un {t' : Nat} (I : Inv X pins σ H s) (u : Un X.fs [] H H' s.heap h') (hok : HOk X.prog X.w H' h') : Inv X pins σ H' { s with heap := h', toks := t' } := by
  obtain ⟨m, ⟨o, es, ep, ho, r⟩, _⟩ := id I.loc
  obtain ⟨sl, hL⟩ := u.any ho I.free (by simp)
  exact I.step (g' := s.gens) (d' := s.drawn) (ch := []) (fun _ z => nomatch z) (fun b o _ hb _ e n => u.keep b o e n hb (by simp)) (fun b o _ hb _ e n => u.slot b o e n hb (by simp)) (fun b o _ e n => u.free b o e n (by simp)) (fun b o _ e => u.there b o e (by simp)) u.tups u.frzs u.tbls (fun m' hm => by
    obtain ⟨o', es', ep', ho', r'⟩ := hm
    rw [ho] at ho'; cases ho'
    exact ⟨_, es', ep', hL, r'⟩) hok I.bare
/-- behind a call (or a comprehension's block): the slots of this frame may have changed too, the records at ch may have turned -/
theorem Inv.call {g' : Array GenState} {t' : Nat} {d' : Drawn} {ch : List Addr} (I : Inv X pins σ H s) (u : Un (frs X.stack) ch H H' s.heap h') (hok : HOk X.prog X.w H' h') (hg : AllBare g')
    (hch : ∀ b ∈ ch, (b ∈ X.ex ∨ X.s₀.heap.objs.size ≤ b) ∧ b ≠ X.env.locals ∧ (∀ x c, X.env.cells.lookup x = some c → c ≠ b) ∧ ∀ p ∈ X.pn ++ pins, p.1 ≠ b) :
    Inv X pins σ H' { s with heap := h', gens := g', drawn := d', toks := t' } := by
  obtain ⟨m, ⟨o, es, ep, ho, r⟩, _⟩ := id I.loc
  obtain ⟨sl, hL⟩ := u.any ho I.free fun z => (hch _ z).2.1 rfl
  exact I.step (ch := ch) hch (fun b o hL hb hc e n => u.keep b o e n (fun z => (List.mem_cons.mp (I.stkSub b z)).elim hL hb) hc) (fun b o _ _ hc e n => u.any e n hc) (fun b o hc e n => u.free b o e n hc) (fun b o hc e => u.there b o e hc) u.tups u.frzs u.tbls (fun m' hm => by
    obtain ⟨o', es', ep', ho', r'⟩ := hm
    rw [ho] at ho'; cases ho'
    exact ⟨_, es', ep', hL, r'⟩) hok hg
/-- an untracked record of ours (an iterator) has turned -/
theorem Inv.turned {t' : Nat} {it : Addr} (I : Inv X pins σ H s) (k : ∀ b o, b ≠ it → s.heap.get? b = some o → h'.get? b = some o) (hn : H it = none) (hL : it ≠ X.env.locals)
    (h1 : it ∈ X.ex ∨ X.s₀.heap.objs.size ≤ it) (h2 : ∀ x c, X.env.cells.lookup x = some c → c ≠ it) (h3 : ∀ p ∈ X.pn ++ pins, p.1 ≠ it) : Inv X pins σ H { s with heap := h', toks := t' } := by
  have nit : ∀ b u, H b = some u → b ≠ it := fun b u e z => by rw [z, hn] at e; cases e
  refine I.step (g' := s.gens) (d' := s.drawn) (ch := [it]) (fun b hb => ?_) (fun b o _ _ hc e _ => k b o (fun z => hc (by simp [z])) e) (fun b o _ _ hc e _ => ⟨o.slots, k b o (fun z => hc (by simp [z])) e⟩) (fun _ _ _ _ n => n)
    (fun b o hc e => ⟨o, k b o (fun z => hc (by simp [z])) e⟩) (fun _ _ e => e) (fun _ _ _ e => e) (fun b ps e => ⟨#[], by rw [e]; simp⟩) (fun m hm => ?_) (fun b u e => ?_) I.bare
  · have e : b = it := by simpa using hb
    subst e
    exact ⟨h1, hL, h2, h3⟩
  · obtain ⟨o, es, ep, ho, r⟩ := hm
    exact ⟨o, es, ep, k _ o (Ne.symm hL) ho, r⟩
  · refine (I.hok b u e).stay (fun c v hc q => k c v ?_ q) (fun _ q => q) fun _ _ q => q
    rcases hc with z | z
    · rw [z]; exact nit b u e
    · exact nit c _ z
theorem Inv.tok (I : Inv X pins σ H s) (t : Nat) : Inv X pins σ H { s with toks := t } := I.un (h' := s.heap) (t' := t) Un.refl I.hok
/-- all objects kept -/
theorem Inv.kept {t' : Nat} (I : Inv X pins σ H s) (k : ∀ b u, s.heap.get? b = some u → h'.get? b = some u) : Inv X pins σ H { s with heap := h', toks := t' } := I.un (Un.kept k) (I.hok.kept k)
/-- a new object laid and tracked -/
theorem Inv.laid {a : Addr} {o : HO} {t' : Nat} (I : Inv X pins σ H s) (k : ∀ b u, s.heap.get? b = some u → h'.get? b = some u) (hp : s.heap.objs.size ≤ a) (new : ObjOk X.prog X.w (upd H a o) h' a o) :
    Inv X pins σ (upd H a o) { s with heap := h', toks := t' } := I.un (Un.laid k hp (I.hok.fresh hp)) (I.hok.laid k hp new)
/-- an object written -/
theorem Inv.write {x e : Addr} {o : HO} {t' : Nat} (I : Inv X pins σ H s) (mu : Mut (H x)) (he : e = x ∨ H e = some (.own x)) (k : ∀ b u, b ≠ e → s.heap.get? b = some u → h'.get? b = some u) (heo : ∃ u, h'.get? e = some u)
    (new : ObjOk X.prog X.w (upd H x o) h' x o) : Inv X pins σ (upd H x o) { s with heap := h', toks := t' } := I.un (Un.write mu he k heo) (I.hok.write mu he k heo new)
/-- forgetting slots, pins -/
theorem Inv.weak {σ' : List (Option V)} (I : Inv X pins σ H s) (hl : σ'.length = σ.length) (w : ∀ (i : Nat) v, σ'[i]? = some (some v) → σ[i]? = some (some v)) : Inv X pins σ' H s :=
  ⟨I.ok, I.os, I.bare, I.base, let ⟨m, hn, hl'⟩ := I.loc; ⟨m, hn, fun i x v e1 e2 e3 => hl' i x v e1 (w i v e2) e3⟩, I.cell, I.free, I.freeC, I.pin, I.hok, hl.trans I.len⟩
theorem Inv.pins_of {pins' : List (Addr × Obj)} (I : Inv X pins σ H s) (h : ∀ p ∈ pins', s.heap.get? p.1 = some p.2 ∧ H p.1 = none ∧ p.1 ≠ X.env.locals ∧ p.1 ∉ X.fs ∧ ∀ v, p.2.data ≠ .cell v) : Inv X pins' σ H s :=
  ⟨I.ok, I.os, I.bare, I.base, I.loc, I.cell, I.free, I.freeC, fun p hp => (List.mem_append.mp hp).elim (fun z => I.pin p (List.mem_append_left _ z)) (h p), I.hok, I.len⟩

theorem nodup_ix {N : List Str} (hN : N.Nodup) {i j : Nat} {x : Str} (a : N[i]? = some x) (b : N[j]? = some x) : i = j := by
  obtain ⟨h1, e1⟩ := List.getElem?_eq_some_iff.mp a
  obtain ⟨h2, e2⟩ := List.getElem?_eq_some_iff.mp b
  exact (List.getElem_inj hN).mp (e1.trans e2.symm)

/-- a name is stored; what changed -/
theorem store_ok2 {M : Model} {A : Around} {E : Value → Shared → Prop} {i : Nat} {x : Str} {v : V} {u : Value} {Q : Unit → Shared → Prop} (I : Inv X pins σ H s) (hN : X.N.Nodup) (hi : X.N[i]? = some x) (hx : Loc X.env.scope x) (r : RelV v u)
    (h : ∀ s', Inv X pins (σ.set i (some v)) H s' → (∃ a, Heap.SameBut a s.heap s'.heap ∧ (a = X.env.locals ∨ X.env.cells.lookup x = some a)) → Q () s') (hf : X.fn x = true ∨ X.env.scope.names.lookup x = some .local := by first | exact .inl rfl | exact .inr rfl | assumption) : wpAny M A (storeName X.env x u) Q E s := by
  obtain ⟨m, hn, hl⟩ := id I.loc
  have hcls : (X.env.scope.kind == .class || (X.env.scope.kind == .module && X.env.locals != X.env.globals)) = false := by rw [I.ok.kind]; rfl
  have hiσ : i < σ.length := by rw [I.len]; exact (List.getElem?_eq_some_iff.mp hi).1
  have cne := I.cne
  have tracked : ∀ {a : Addr} {h' : Heap}, (∃ o, s.heap.get? a = some o ∧ H a = none) → Heap.SameBut a s.heap h' → HOk X.prog X.w H h' := fun {a h'} ha hs b ob e => by
    obtain ⟨_, _, hfree⟩ := ha
    refine (I.hok b ob e).stay (fun c w' hc q => (hs.2 c ?_).trans q) (fun _ q => q) fun _ _ q => q
    rintro rfl
    rcases hc with rfl | hc
    · rw [hfree] at e; cases e
    · rw [hfree] at hc; cases hc
  rcases hx with hk | hk
  · refine wpAny_storeName_local hk hn (fun h' hn' hs => ?_) hcls
    obtain ⟨oL, _, _, hoL, _⟩ := id hn
    refine h _ ⟨I.ok, I.os, I.bare, ⟨fun b o e n hb hx => ?_, fun b o e n hb hx => ?_, I.base.free, fun b o e hx => ?_, I.base.tups, I.base.frzs, I.base.tbls⟩, ⟨_, hn', fun j y v' e1 e2 e3 => ?_⟩, fun y c e => ?_, I.free, I.freeC, fun p hp => ?_, tracked ⟨oL, hoL, I.free⟩ hs, by simpa using I.len⟩ ⟨_, hs, .inl rfl⟩
    · exact (hs.2 b (Nat.ne_of_lt (Nat.lt_of_lt_of_le (Heap.lt_size e) I.ok.above))).trans (I.base.keep b o e n hb hx)
    · obtain ⟨sl, e1⟩ := I.base.slot b o e n hb hx
      exact ⟨sl, (hs.2 b (Nat.ne_of_lt (Nat.lt_of_lt_of_le (Heap.lt_size e) I.ok.above))).trans e1⟩
    · obtain ⟨o', e1⟩ := I.base.there b o e hx
      exact ⟨o', (hs.2 b (Nat.ne_of_lt (Nat.lt_of_lt_of_le (Heap.lt_size e) I.ok.above))).trans e1⟩
    · by_cases hj : j = i
      · subst hj
        rw [hi] at e1; cases e1
        rw [List.getElem?_set_self hiσ] at e2
        cases e2
        exact ⟨u, r, .inl ⟨hk, by simp⟩⟩
      · rw [List.getElem?_set_ne (Ne.symm hj)] at e2
        obtain ⟨u', r', q⟩ := hl j y v' e1 e2 e3
        refine ⟨u', r', ?_⟩
        rcases q with ⟨k, e⟩ | ⟨k, c, e, z⟩
        · refine .inl ⟨k, ?_⟩
          have : y ≠ x := fun e => hj (nodup_ix hN e1 (e ▸ hi))
          simp [this, e]
        · exact .inr ⟨k, c, e, z.sameBut hs (cne y c e)⟩
    · obtain ⟨w', z⟩ := I.cell y c e
      exact ⟨w', z.sameBut hs (cne y c e)⟩
    · obtain ⟨e, n, ne, nf, d⟩ := I.pin p hp
      exact ⟨(hs.2 p.1 ne).trans e, n, ne, nf, d⟩
  · have hfn : X.fn x = true := by
      rcases hf with z | z
      · exact z
      · rw [z] at hk; cases hk
    obtain ⟨c, hc⟩ := I.ok.has x (.inl hk)
    obtain ⟨w', z⟩ := I.cell x c hc
    refine wpAny_storeName_cell I.ok.kind hk hc z (fun h' hc' hs => ?_)
    obtain ⟨oc, hoc, hocd⟩ := id z
    refine h { s with heap := h' } ⟨I.ok, I.os, I.bare, ⟨fun b o e n hb hx => ?_, fun b o e n hb hx => ?_, I.base.free, fun b o e hx => ?_, I.base.tups, I.base.frzs, I.base.tbls⟩, ⟨m, hn.sameBut hs (Ne.symm (cne x c hc)), fun j y v' e1 e2 e3 => ?_⟩, fun y c' e => ?_, I.free, I.freeC, fun p hp => ?_, tracked ⟨oc, hoc, I.freeC x c hc⟩ hs, by simpa using I.len⟩ ⟨c, hs, .inr hc⟩
    · exact (hs.2 b (Nat.ne_of_lt (Nat.lt_of_lt_of_le (Heap.lt_size e) (I.ok.cab x c hfn hc)))).trans (I.base.keep b o e n hb hx)
    · obtain ⟨sl, e1⟩ := I.base.slot b o e n hb hx
      exact ⟨sl, (hs.2 b (Nat.ne_of_lt (Nat.lt_of_lt_of_le (Heap.lt_size e) (I.ok.cab x c hfn hc)))).trans e1⟩
    · obtain ⟨o', e1⟩ := I.base.there b o e hx
      exact ⟨o', (hs.2 b (Nat.ne_of_lt (Nat.lt_of_lt_of_le (Heap.lt_size e) (I.ok.cab x c hfn hc)))).trans e1⟩
    · by_cases hj : j = i
      · subst hj
        rw [hi] at e1; cases e1
        rw [List.getElem?_set_self hiσ] at e2
        cases e2
        exact ⟨u, r, .inr ⟨.inl hk, c, hc, hc'⟩⟩
      · rw [List.getElem?_set_ne (Ne.symm hj)] at e2
        obtain ⟨u', r', q⟩ := hl j y v' e1 e2 e3
        refine ⟨u', r', ?_⟩
        rcases q with q | ⟨k, c', e, z'⟩
        · exact .inl q
        · refine .inr ⟨k, c', e, z'.sameBut hs ?_⟩
          rintro rfl
          exact hj (nodup_ix hN e1 (I.ok.inj _ _ _ e hc ▸ hi))
    · by_cases hcc : c' = c
      · subst hcc; exact ⟨_, hc'⟩
      · obtain ⟨w2, z2⟩ := I.cell y c' e
        exact ⟨w2, z2.sameBut hs hcc⟩
    · obtain ⟨e, n, ne, nf, d⟩ := I.pin p hp
      refine ⟨(hs.2 p.1 ?_).trans e, n, ne, nf, d⟩
      intro q
      rw [q, hoc] at e
      have q' : oc = p.2 := Option.some.inj e
      exact d w' (by rw [← q']; exact hocd)
theorem store_ok {M : Model} {A : Around} {E : Value → Shared → Prop} {i : Nat} {x : Str} {v : V} {u : Value} {Q : Unit → Shared → Prop} (I : Inv X pins σ H s) (hN : X.N.Nodup) (hi : X.N[i]? = some x) (hx : Loc X.env.scope x) (r : RelV v u)
    (h : ∀ s', Inv X pins (σ.set i (some v)) H s' → Q () s') (hf : X.fn x = true ∨ X.env.scope.names.lookup x = some .local := by first | exact .inl rfl | exact .inr rfl | assumption) : wpAny M A (storeName X.env x u) Q E s :=
  store_ok2 I hN hi hx r (fun s' I' _ => h s' I') hf
/-- behind a call or a block, the state as it is -/
theorem Inv.call' {s' : Shared} {ch : List Addr} (I : Inv X pins σ H s) (ho : s'.os = s.os) (u : Un (frs X.stack) ch H H' s.heap s'.heap) (hok : HOk X.prog X.w H' s'.heap) (hg : AllBare s'.gens)
    (hch : ∀ b ∈ ch, (b ∈ X.ex ∨ X.s₀.heap.objs.size ≤ b) ∧ b ≠ X.env.locals ∧ (∀ x c, X.env.cells.lookup x = some c → c ≠ b) ∧ ∀ p ∈ X.pn ++ pins, p.1 ≠ b) : Inv X pins σ H' s' := by
  obtain ⟨h', g', d', t', o'⟩ := s'
  have e : o' = s.os := ho
  subst e
  exact I.call (g' := g') (t' := t') (d' := d') u hok hg hch
end

/-! ### the judgements -/
/-- an exception: its class, its own dict's address (where it has one), the abstract heap behind it -/
abbrev XK := Value → Option Addr → Hp → Prop
abbrev St := List (Option V)
abbrev VK := V → Hp → Prop
/-- an expression's reading; a test's; an argument list's -/
abbrev TE := St → Hp → VK → Prop
abbrev TT := St → Hp → (Bool → Hp → Prop) → Prop
abbrev TA := St → Hp → (List V → Hp → Prop) → Prop
/-- what is wanted behind a statement -/
structure Ends where
  nx : St → Hp → Prop
  rt : VK
  bk : St → Hp → Prop := fun _ _ => False
  ct : St → Hp → Prop := fun _ _ => False
abbrev TS := Ends → St → Hp → Prop

def EP (X : Cx) (pins : List (Addr × Obj)) (σ : St) (Q : VK) (u : Value) (s' : Shared) : Prop := ∃ v H', Inv X pins σ H' s' ∧ RelV v u ∧ Q v H'
def TP (X : Cx) (pins : List (Addr × Obj)) (σ : St) (Q : Bool → Hp → Prop) (b : Bool) (s' : Shared) : Prop := ∃ H', Inv X pins σ H' s' ∧ Q b H'
def AP (X : Cx) (pins : List (Addr × Obj)) (σ : St) (Q : List V → Hp → Prop) (us : List Value) (s' : Shared) : Prop := ∃ vs H', Inv X pins σ H' s' ∧ Vals vs us ∧ Q vs H'
def SP (X : Cx) (pins : List (Addr × Obj)) (D : Ends) (f : Flow) (s' : Shared) : Prop :=
  match f with
  | .next => ∃ σ' H', Inv X pins σ' H' s' ∧ D.nx σ' H'
  | .brk => ∃ σ' H', Inv X pins σ' H' s' ∧ D.bk σ' H'
  | .cont => ∃ σ' H', Inv X pins σ' H' s' ∧ D.ct σ' H'
  | .ret u => ∃ v σ' H', Inv X pins σ' H' s' ∧ RelV v u ∧ D.rt v H'

def PE (X : Cx) (e : Expr) (t : TE) : Prop :=
  ∀ (pins : List (Addr × Obj)) (s : Shared) (σ : St) (H : Hp) (Q : VK), Inv X pins σ H s → t σ H Q → wpAny (model X.prog X.w) X.A (eval e X.env) (EP X pins σ Q) X.xe s
def PT (X : Cx) (e : Expr) (t : TT) : Prop :=
  ∀ (pins : List (Addr × Obj)) (s : Shared) (σ : St) (H : Hp) (Q : Bool → Hp → Prop), Inv X pins σ H s → t σ H Q → wpAny (model X.prog X.w) X.A (isTrue e X.env (eval e X.env)) (TP X pins σ Q) X.xe s
/-- a test whatever its 'whole' is (and, or) -/
def PW (X : Cx) (e : Expr) (t : TT) : Prop :=
  ∀ (whole : Sem Value) (pins : List (Addr × Obj)) (s : Shared) (σ : St) (H : Hp) (Q : Bool → Hp → Prop), Inv X pins σ H s → t σ H Q → wpAny (model X.prog X.w) X.A (isTrue e X.env whole) (TP X pins σ Q) X.xe s
theorem PW.pt {X : Cx} {e : Expr} {t : TT} (h : PW X e t) : PT X e t := h _
/-- an argument list (no star), from the left -/
def PA (X : Cx) (es : List Expr) (t : TA) : Prop :=
  ∀ (pos : Pos) (pins : List (Addr × Obj)) (s : Shared) (σ : St) (H : Hp) (Q : List V → Hp → Prop), Inv X pins σ H s → t σ H Q → wpAny (model X.prog X.w) X.A (spliced (backTo pos (starEach es X.env))) (AP X pins σ Q) X.xe s
def PS (X : Cx) (st : Stmt) (t : TS) : Prop :=
  ∀ (pins : List (Addr × Obj)) (s : Shared) (σ : St) (H : Hp) (D : Ends), Inv X pins σ H s → t D σ H → wpAny (model X.prog X.w) X.A (exec st X.env) (SP X pins D) X.xe s
def PSs (X : Cx) (st : List Stmt) (t : TS) : Prop :=
  ∀ (pins : List (Addr × Obj)) (s : Shared) (σ : St) (H : Hp) (D : Ends), Inv X pins σ H s → t D σ H → wpAny (model X.prog X.w) X.A (execs st X.env) (SP X pins D) X.xe s
/-- weaken the end -/
theorem thn {α : Type} {t : Sem α} {Q Q' : α → Shared → Prop} {M : Model} {A : Around} {E : Value → Shared → Prop} {s : Shared} (h : wpAny M A t Q E s) (hQ : ∀ a s, Q a s → Q' a s) : wpAny M A t Q' E s := wpAny_mono h hQ fun _ _ x => x
end L2

namespace L2
open PySem PySem.Spec PyProof.Rows
section
variable {X : Cx}

/-- two expressions in a row -/
theorem bin {a b : Expr} {ta tb : TE} (ha : PE X a ta) (hb : PE X b tb) {pins : List (Addr × Obj)} {s : Shared} {σ : St} {H : Hp} {R : V → V → Hp → Prop} (I : Inv X pins σ H s) (h : ta σ H fun x H1 => tb σ H1 fun y H2 => R x y H2)
    {α : Type} {Q : α → Shared → Prop} {f : Value → Value → Sem α}
    (hf : ∀ v u s2 x y H2, Inv X pins σ H2 s2 → RelV x v → RelV y u → R x y H2 → wpAny (model X.prog X.w) X.A (f v u) Q X.xe s2) :
    wpAny (model X.prog X.w) X.A (eval a X.env) (fun v s₁ => wpAny (model X.prog X.w) X.A (eval b X.env) (fun u s₂ => wpAny (model X.prog X.w) X.A (f v u) Q X.xe s₂) X.xe s₁) X.xe s := by
  refine thn (ha pins s σ H _ I h) fun v s1 ⟨x, H1, I1, r1, q1⟩ => ?_
  refine thn (hb pins s1 σ H1 _ I1 q1) fun u s2 ⟨y, H2, I2, r2, q2⟩ => ?_
  exact hf v u s2 x y H2 I2 r1 r2 q2

/-! ### names and constants -/
def tVar (i : Nat) : TE := fun σ H Q => ∃ v, σ[i]? = some (some v) ∧ Q v H
def tC (v : V) : TE := fun _ H Q => Q v H
theorem pe_var {i : Nat} {x : Str} {pos : Pos} (hN : X.N[i]? = some x) (hv : Vis X.env.scope x) (hd : (x == ("__debug__" : Str)) = false := by decide) (hcd : (x == ("__classdict__" : Str)) = false := by decide) : PE X (.Name x pos) (tVar i) := by
  intro pins s σ H Q I h
  obtain ⟨v, e, h⟩ := h
  obtain ⟨m, hn, hl⟩ := I.loc
  obtain ⟨u, r, l⟩ := hl i x v hN e hv
  have fin : EP X pins σ Q u s := ⟨v, H, I, r, h⟩
  rcases l with ⟨hk, hm⟩ | ⟨hk, c, hc, hcell⟩
  · exact wpAny_Name (wpAny_loadName_local I.ok.kind hk hn hm fin) hd
  · rcases hk with hk | hk
    · exact wpAny_Name (wpAny_loadName_cell I.ok.kind hk hc hcell fin) hd
    · exact wpAny_Name (wpAny_loadName_free I.ok.kind hk hc hcell fin hcd) hd
theorem pe_int {i j pos} : PE X (.Constant (.int i) j pos) (tC (.int i)) := fun _ _ _ H _ I h => wpAny_Constant_int ⟨.int i, H, I.tok _, ⟨_, rfl⟩, h⟩
theorem pe_bl {b j pos} : PE X (.Constant (.bool b) j pos) (tC (.bl b)) := fun _ _ _ H _ I h => Constant_bool ⟨.bl b, H, I, rfl, h⟩
theorem pe_non {j pos} : PE X (.Constant .none j pos) (tC .non) := fun _ _ _ H _ I h => Constant_none ⟨.non, H, I, rfl, h⟩
theorem pe_str {x j pos} : PE X (.Constant (.str x) j pos) (tC (.str x)) := fun _ _ _ H _ I h => Calls.Constant_str ⟨.str x, H, I.tok _, ⟨_, rfl⟩, h⟩

/-- a global name of the def -/
def Gl (X : Cx) (x : Str) : Prop := X.env.kindOf x = some .globalImplicit
theorem ld_glob {E : Value → Shared → Prop} {pins : List (Addr × Obj)} {s : Shared} {σ : St} {H : Hp} {x : Str} {u : Value} {pos : Pos} {Q : Value → Shared → Prop} (I : Inv X pins σ H s) (hg : Gl X x) (hm : X.mg x = some u) (h : Q u s)
    (hd : (x == ("__debug__" : Str)) = false := by decide) : wpAny (model X.prog X.w) X.A (eval (.Name x pos) X.env) Q E s :=
  Calls.Name_function_global I.ok.kind hg (Calls.loadGlobal_global (by rw [I.ok.glob]; exact I.mod.glob.keeps I.bk) hm h) hd
theorem ld_blt {E : Value → Shared → Prop} {pins : List (Addr × Obj)} {s : Shared} {σ : St} {H : Hp} {x : Str} {u : Value} {pos : Pos} {Q : Value → Shared → Prop} (I : Inv X pins σ H s) (hg : Gl X x) (hm : X.mg x = none) (hv : bootBuiltins x = some u) (h : Q u s)
    (hn : x ≠ "__name__" := by decide) (hd : (x == ("__debug__" : Str)) = false := by decide) : wpAny (model X.prog X.w) X.A (eval (.Name x pos) X.env) Q E s := by
  obtain ⟨mb, h1, h2⟩ := I.mod.blt
  exact Calls.Name_function_global I.ok.kind hg (Calls.loadGlobal_builtin (by rw [I.ok.glob]; exact I.mod.glob.keeps I.bk) hm (by rw [I.ok.blt]; exact h1.keeps I.bk) ((h2 x hn).trans hv) h) hd
/-- a module's constant, a class, a function, as a value -/
theorem pe_glob {x : Str} {v : V} {u : Value} {pos : Pos} (hg : Gl X x) (hm : X.mg x = some u) (r : RelV v u) (hd : (x == ("__debug__" : Str)) = false := by decide) : PE X (.Name x pos) (tC v) :=
  fun _ _ _ H _ I h => ld_glob I hg hm ⟨v, H, I, r, h⟩ hd
theorem pe_bltn {x : Str} {v : V} {u : Value} {pos : Pos} (hg : Gl X x) (hm : X.mg x = none) (hv : bootBuiltins x = some u) (r : RelV v u) (hn : x ≠ "__name__" := by decide) (hd : (x == ("__debug__" : Str)) = false := by decide) : PE X (.Name x pos) (tC v) :=
  fun _ _ _ H _ I h => ld_blt I hg hm hv ⟨v, H, I, r, h⟩ hn hd

/-! ### arithmetic -/
/-- two ints -/
def t2I (ta tb : TE) (k : Int → Int → Hp → Prop) : St → Hp → Prop := fun σ H => ta σ H fun x H1 => tb σ H1 fun y H2 => ∃ i j, x = .int i ∧ y = .int j ∧ k i j H2
def tAdd (ta tb : TE) : TE := fun σ H Q => t2I ta tb (fun i j H2 => Q (.int (i + j)) H2) σ H
def tSub (ta tb : TE) : TE := fun σ H Q => t2I ta tb (fun i j H2 => Q (.int (i - j)) H2) σ H
/-- the left factor below 2^64 -/
def tMul (ta tb : TE) : TE := fun σ H Q => t2I ta tb (fun i j H2 => (-(2 ^ 64) < i ∧ i < 2 ^ 64) ∧ Q (.int (i * j)) H2) σ H
variable {a b : Expr} {ta tb : TE} {pos : Pos}
/-! ### comparisons -/
def PC (X : Cx) (op : CmpOp) (a b : Expr) (t : TE) : Prop :=
  ∀ (pins : List (Addr × Obj)) (s : Shared) (σ : St) (H : Hp) (Q : VK), Inv X pins σ H s → t σ H Q →
    wpAny (model X.prog X.w) X.A (eval a X.env) (fun v s₁ => wpAny (model X.prog X.w) X.A (eval b X.env) (fun u s₂ => wpAny (model X.prog X.w) X.A (compareOp op v u) (EP X pins σ Q) X.xe s₂) X.xe s₁) X.xe s
def tCmp (p : Int → Int → Bool) (ta tb : TE) : TE := fun σ H Q => t2I ta tb (fun i j H2 => Q (.bl (p i j)) H2) σ H
abbrev tLt : TE → TE → TE := tCmp fun i j => decide (i < j)
abbrev tLe : TE → TE → TE := tCmp fun i j => decide (i ≤ j)
abbrev tGt : TE → TE → TE := tCmp fun i j => decide (j < i)
abbrev tGe : TE → TE → TE := tCmp fun i j => decide (j ≤ i)
abbrev tEqI : TE → TE → TE := tCmp fun i j => decide (i = j)
abbrev tNeI : TE → TE → TE := tCmp fun i j => !decide (i = j)
/-- is None -/
def tIsN (ta : TE) : TE := fun σ H Q => ta σ H fun x H1 => Q (.bl (decide (x = .non))) H1
def tNotN (ta : TE) : TE := fun σ H Q => ta σ H fun x H1 => Q (.bl (!decide (x = .non))) H1
/-- a comparison as a value, as a test -/
def tB (t : TE) : TT := fun σ H Q => t σ H fun x H1 => ∃ c, x = .bl c ∧ Q c H1
theorem pt_cmp {op : CmpOp} {t : TE} (h : PC X op a b t) (h1 : behindInMarks op b = false := by first | exact nobehind _ (by decide) (by decide) | rfl) : PT X (.Compare a [op] [b] pos) (tB t) := by
  intro pins s σ H Q I hw
  refine wpAny_isTrue_Compare1 (thn (h pins s σ H _ I hw) fun v s1 h1 => thn h1 fun u s2 h2 => thn h2 fun c s3 ⟨x, H1, I1, r1, q1⟩ => ?_) h1
  obtain ⟨d, rfl, q⟩ := q1
  cases r1
  exact wpAny_truthy_bool ⟨H1, I1, q⟩
/-- an expression whose value is a bool, as a test -/
theorem pt_val {e : Expr} {t : TE} (h : PE X e t) (he : ∀ whole, isTrue e X.env whole = (do let v ← whole; standAt e.pos; holding [v] (truthy v)) := by intro _; rfl) : PT X e (tB t) := by
  intro pins s σ H Q I hw
  refine isTrue_plain (thn (h pins s σ H _ I hw) fun v s1 ⟨x, H1, I1, r1, q1⟩ => ?_) (he _)
  obtain ⟨d, rfl, q⟩ := q1
  cases r1
  exact wpAny_truthy_bool ⟨H1, I1, q⟩

/-! ### and, or, not -/
variable {tA tB' : TT} {rest : List Expr}
def tAnd (t u : TT) : TT := fun σ H Q => t σ H fun c H1 => if c = true then u σ H1 Q else Q false H1
def tOr (t u : TT) : TT := fun σ H Q => t σ H fun c H1 => if c = true then Q true H1 else u σ H1 Q
def tNot (t : TT) : TT := fun σ H Q => t σ H fun c H1 => Q (!c) H1
theorem pw_or1 (ha : PT X a tA) : PW X (.BoolOp .Or [a] pos) tA := by
  intro wh pins s σ H Q I h
  refine isTrue_or (thn (ha pins s σ H Q I h) fun c s1 e => ?_)
  cases c with
  | false => exact isTrue_or_nil e
  | true => exact e
theorem pw_or (ha : PT X a tA) (hb : PW X (.BoolOp .Or (b :: rest) pos) tB') : PW X (.BoolOp .Or (a :: b :: rest) pos) (tOr tA tB') := by
  intro wh pins s σ H Q I h
  refine isTrue_or (thn (ha pins s σ H _ I h) fun c s1 ⟨H1, I1, q1⟩ => ?_)
  cases c with
  | true => exact ⟨H1, I1, q1⟩
  | false => exact hb wh pins s1 σ H1 Q I1 q1
theorem pt_not (ha : PT X a tA) : PT X (.UnaryOp .Not a pos) (tNot tA) := by
  intro pins s σ H Q I h
  exact isTrue_not (ha pins s σ H (fun c H1 => Q (!c) H1) I h)
/-- .. as values (bools) -/
def tAndV (ta tb : TE) : TE := fun σ H Q => ta σ H fun x H1 => ∃ c, x = .bl c ∧ if c = true then tb σ H1 Q else Q (.bl false) H1
def tOrV (ta tb : TE) : TE := fun σ H Q => ta σ H fun x H1 => ∃ c, x = .bl c ∧ if c = true then Q (.bl true) H1 else tb σ H1 Q
def tNotV (ta : TE) : TE := fun σ H Q => ta σ H fun x H1 => ∃ c, x = .bl c ∧ Q (.bl (!c)) H1
theorem pe_one {op} {t : TE} (h : PE X a t) : PE X (.BoolOp op [a] pos) t := fun pins s σ H Q I hw => BoolOp_one (h pins s σ H Q I hw)
theorem pe_and (ha : PE X a ta) (hb : PE X (.BoolOp .And (b :: rest) pos) tb) : PE X (.BoolOp .And (a :: b :: rest) pos) (tAndV ta tb) := by
  intro pins s σ H Q I h
  refine BoolOp_and (thn (ha pins s σ H _ I h) fun v s1 ⟨x, H1, I1, r1, q1⟩ => ?_)
  obtain ⟨c, rfl, q1⟩ := q1
  cases r1
  refine wpAny_truthy_bool ?_
  cases c with
  | true => exact hb pins s1 σ H1 Q I1 q1
  | false => exact ⟨.bl false, H1, I1, rfl, q1⟩
theorem pe_not (ha : PE X a ta) : PE X (.UnaryOp .Not a pos) (tNotV ta) := by
  intro pins s σ H Q I h
  refine UnaryOp_ (thn (ha pins s σ H _ I h) fun v s1 ⟨x, H1, I1, r1, q1⟩ => ?_)
  obtain ⟨c, rfl, q1⟩ := q1
  cases r1
  exact not_of (wpAny_truthy_bool ⟨.bl (!c), H1, I1, rfl, q1⟩)
/-- a if t else b -/
def tIf (t : TT) (ta tb : TE) : TE := fun σ H Q => t σ H fun c H1 => if c = true then ta σ H1 Q else tb σ H1 Q
end
end L2

namespace L2
open PySem PySem.Spec PyProof.Rows

/-! ### a list, a tuple that is read: tracked, frozen, or an object of the module -/
def SqL (K : PySem.W.Frag) (H : Hp) (a : Addr) (xs : List V) : Prop :=
  Rd H a (.lst xs) ∨
    ∃ (o : Obj) (its : Array Value) (n : Nat), K.lookup a = some o ∧ o.cls = .type "list" ∧ o.dict = none ∧ o.data = .seq its n ∧ its.size ≤ sizeLine ∧ Vals xs its.toList
def SqT (K : PySem.W.Frag) (H : Hp) (a : Addr) (xs : List V) : Prop :=
  Rd H a (.tup xs) ∨
    ∃ (o : Obj) (its : Array Value) (n : Nat), K.lookup a = some o ∧ o.cls = .type "tuple" ∧ o.data = .seq its n ∧ its.size ≤ sizeLine ∧ Vals xs its.toList
def absV : Value → Option V
  | .none => some .non
  | .bool b => some (.bl b)
  | .int i _ => some (.int i)
  | .str x _ => some (.str x)
  | .bytes b _ => some (.byt b)
  | .float b _ => some (.flt b)
  | .ref a => some (.ref a)
  | .type n => some (.ty n)
  | _ => none
theorem RelV.abs {x : V} {u : Value} (r : RelV x u) : absV u = some x := by
  cases x with
  | non => cases r; rfl
  | bl _ => cases r; rfl
  | int _ => obtain ⟨t, rfl⟩ := r; rfl
  | str _ => obtain ⟨t, rfl⟩ := r; rfl
  | byt _ => obtain ⟨t, rfl⟩ := r; rfl
  | flt _ => obtain ⟨t, rfl⟩ := r; rfl
  | ref _ => cases r; rfl
  | ty _ => cases r; rfl
theorem RelV.inj {x y : V} {u : Value} (r : RelV x u) (q : RelV y u) : x = y := Option.some.inj (r.abs.symm.trans q.abs)
theorem Vals.inj : ∀ {xs ys : List V} {us : List Value}, Vals xs us → Vals ys us → xs = ys
  | _, _, _, .nil, .nil => rfl
  | _, _, _, .cons r t, .cons r' t' => by rw [r.inj r', Vals.inj t t']
section
variable {X : Cx} {pins : List (Addr × Obj)} {σ : St} {H : Hp} {s : Shared} {a : Addr} {xs ys : List V}
theorem SqL.of {K : PySem.W.Frag} (h : H a = some (.lst xs)) : SqL K H a xs := .inl (.inl h)
theorem SqT.of {K : PySem.W.Frag} (h : H a = some (.tup xs)) : SqT K H a xs := .inl (.inl h)
theorem Inv.list (I : Inv X pins σ H s) (h : SqL X.K H a xs) : ∃ its : List Value, Vals xs its ∧ PlainL s.heap a its.toArray ∧ xs.length ≤ sizeLine := by
  rcases h with h | ⟨o, its, n, hk, hc, hd, hs, hz, r⟩
  · obtain ⟨z, its, n, r, e⟩ := h.ok I.hok
    exact ⟨its, r, ⟨_, n, e, rfl, rfl, rfl⟩, z⟩
  · refine ⟨its.toList, r, ⟨o, n, I.kIn a o hk, hc, hd, by simpa using hs⟩, ?_⟩
    have e := r.length
    simp only [Array.length_toList] at e
    omega
theorem Inv.tuple (I : Inv X pins σ H s) (h : SqT X.K H a xs) : ∃ its : List Value, Vals xs its ∧ IsTup s.heap a its.toArray ∧ xs.length ≤ sizeLine := by
  rcases h with h | ⟨o, its, n, hk, hc, hs, hz, r⟩
  · obtain ⟨z, its, r, p⟩ := h.ok I.hok
    exact ⟨its, r, p, z⟩
  · refine ⟨its.toList, r, ⟨o, I.kIn a o hk, hc, n, by simpa using hs⟩, ?_⟩
    have e := r.length
    simp only [Array.length_toList] at e
    omega
theorem Inv.tuple_inj (I : Inv X pins σ H s) (h : SqT X.K H a xs) (h' : SqT X.K H a ys) : xs = ys := by
  obtain ⟨its, r, ⟨o, e, _, n, d⟩, _⟩ := I.tuple h
  obtain ⟨its', r', ⟨o', e', _, n', d'⟩, _⟩ := I.tuple h'
  rw [e] at e'; cases e'
  rw [d] at d'
  injection d' with d1 _
  have : its = its' := by simpa using congrArg Array.toList d1
  subst this
  exact r.inj r'
end

/-! ### another wish about exceptions -/
abbrev Cx.wish (X : Cx) (E : Value → Shared → Prop) : Cx := { X with xe := E }
/-- no exception leaves -/
abbrev Cx.nox (X : Cx) : Cx := X.wish fun _ _ => False
theorem Cx.Ok.wish {X : Cx} (ok : X.Ok) (E : Value → Shared → Prop) : (X.wish E).Ok :=
  ⟨ok.mod, ok.kind, ok.glob, ok.blt, ok.above, ok.inj, ok.has, ok.cab, ok.hd, ok.frames, ok.stk, ok.exf, ok.bs, ok.bsz, ok.noex, ok.exfs, ok.funs, ok.frf⟩
theorem Cx.Ok.unwish {X : Cx} {E : Value → Shared → Prop} (ok : (X.wish E).Ok) : X.Ok :=
  ⟨ok.mod, ok.kind, ok.glob, ok.blt, ok.above, ok.inj, ok.has, ok.cab, ok.hd, ok.frames, ok.stk, ok.exf, ok.bs, ok.bsz, ok.noex, ok.exfs, ok.funs, ok.frf⟩
section
variable {X : Cx} {pins : List (Addr × Obj)} {σ : St} {H : Hp} {s : Shared} {E : Value → Shared → Prop}
theorem Inv.wish (I : Inv X pins σ H s) (E : Value → Shared → Prop) : Inv (X.wish E) pins σ H s := ⟨I.ok.wish E, I.os, I.bare, I.base, I.loc, I.cell, I.free, I.freeC, I.pin, I.hok, I.len⟩
theorem Inv.unwish (I : Inv (X.wish E) pins σ H s) : Inv X pins σ H s := ⟨I.ok.unwish, I.os, I.bare, I.base, I.loc, I.cell, I.free, I.freeC, I.pin, I.hok, I.len⟩
theorem SP.unwish {D : Ends} {f : Flow} {s' : Shared} (h : SP (X.wish E) pins D f s') : SP X pins D f s' := by
  cases f with
  | next => obtain ⟨σ', H', I, q⟩ := h; exact ⟨σ', H', I.unwish, q⟩
  | brk => obtain ⟨σ', H', I, q⟩ := h; exact ⟨σ', H', I.unwish, q⟩
  | cont => obtain ⟨σ', H', I, q⟩ := h; exact ⟨σ', H', I.unwish, q⟩
  | ret u => obtain ⟨v, σ', H', I, r, q⟩ := h; exact ⟨v, σ', H', I.unwish, r, q⟩
theorem PSs.nox {st : List Stmt} {t : TS} (h : PSs X.nox st t) : PSs X st t := fun pins s σ H D I hw =>
  wpAny_mono (h pins s σ H D (I.wish _) hw) (fun _ _ q => q.unwish) fun _ _ z => False.elim z
end

/-! ### blocks and small statements -/
section
variable {X : Cx} {st : Stmt} {rest : List Stmt} {t u : TS} {e : Expr} {te : TE} {pos : Pos}
def tNext : TS := fun D σ H => D.nx σ H
def tSeq (t u : TS) : TS := fun D σ H => t { D with nx := u D } σ H
theorem pss_nil : PSs X [] tNext := fun _ _ σ H _ I h => wpAny_execs_nil ⟨σ, H, I, h⟩
theorem pss_cons (h1 : PS X st t) (h2 : PSs X rest u) : PSs X (st :: rest) (tSeq t u) := by
  intro pins s σ H D I h
  refine wpAny_execs_cons (thn (h1 pins s σ H { D with nx := u D } I h) fun f s1 q => ?_)
  cases f with
  | next =>
    obtain ⟨σ', H', I', q⟩ := q
    exact h2 pins s1 σ' H' D I' q
  | ret v => exact q
  | brk => exact q
  | cont => exact q
theorem pss_one (h1 : PS X st t) : PSs X [st] t := by
  intro pins s σ H D I h
  refine wpAny_execs_cons (thn (h1 pins s σ H D I h) fun f s1 q => ?_)
  cases f with
  | next => exact wpAny_execs_nil q
  | ret v => exact q
  | brk => exact q
  | cont => exact q
def tBreak : TS := fun D σ H => D.bk σ H
def tCont : TS := fun D σ H => D.ct σ H
/-- in a def's body nothing is shown -/
theorem Inv.quiet {pins : List (Addr × Obj)} {σ : St} {H : Hp} {s : Shared} (I : Inv X pins σ H s) : interactive X.env = false := by simp [interactive, I.ok.kind]
/-- an expression whose value is dropped -/
def tDrop (te : TE) : TS := fun D σ H => te σ H fun _ H1 => D.nx σ H1
theorem ps_expr (he : PE X e te) (hs : swapsWith e none pos.line X.env = pure false := by rfl) : PS X (.Expr e pos) (tDrop te) := by
  intro pins s σ H D I h
  exact wpAny_Expr_any (thn (he pins s σ H _ I h) fun v s1 ⟨x, H1, I1, r1, q1⟩ => ⟨σ, H1, I1, q1⟩) I.quiet hs
def tRet (te : TE) : TS := fun D σ H => te σ H D.rt
theorem ps_ret (he : PE X e te) : PS X (.Return (some e) pos) (tRet te) := by
  intro pins s σ H D I h
  exact wpAny_Return_some (thn (he pins s σ H _ I h) fun v s1 ⟨x, H1, I1, r1, q1⟩ => ⟨x, σ, H1, I1, r1, q1⟩)
def tRetN : TS := fun D _ H => D.rt .non H
def tIfS (c : TT) (t u : TS) : TS := fun D σ H => c σ H fun b H1 => if b = true then t D σ H1 else u D σ H1
theorem ps_if {c : Expr} {a b : List Stmt} {tc : TT} (hc : PT X c tc) (ha : PSs X a t) (hb : PSs X b u) : PS X (.If c a b pos) (tIfS tc t u) := by
  intro pins s σ H D I h
  refine wpAny_If (thn (hc pins s σ H _ I h) fun d s1 ⟨H1, I1, q1⟩ => ?_)
  cases d with
  | true => exact ha pins s1 σ H1 D I1 q1
  | false => exact hb pins s1 σ H1 D I1 q1
/-- code that the proof never comes to -/
def tNever : TS := fun _ _ _ => False
end

/-! ### targets -/
abbrev TG := V → St → Hp → (St → Hp → Prop) → Prop
abbrev TGs := List V → St → Hp → (St → Hp → Prop) → Prop
def PG (X : Cx) (target : Expr) (t : TG) : Prop :=
  ∀ (pins : List (Addr × Obj)) (s : Shared) (σ : St) (H : Hp) (v : V) (u : Value) (Q : St → Hp → Prop), Inv X pins σ H s → RelV v u → t v σ H Q →
    wpAny (model X.prog X.w) X.A (assign target X.env u) (fun _ s' => ∃ σ' H', Inv X pins σ' H' s' ∧ Q σ' H') X.xe s
/-- several targets, one after another -/
def PGs (X : Cx) (ts : List Expr) (t : TGs) : Prop :=
  ∀ (pins : List (Addr × Obj)) (s : Shared) (σ : St) (H : Hp) (vs : List V) (us : List Value) (Q : St → Hp → Prop), Inv X pins σ H s → Vals vs us → t vs σ H Q →
    wpAny (model X.prog X.w) X.A (assignInOrder ((assignEach ts X.env).map (·.2)) us) (fun _ s' => ∃ σ' H', Inv X pins σ' H' s' ∧ Q σ' H') X.xe s
/-- o[i] = v, by values -/
abbrev TSet := V → V → V → Hp → (Hp → Prop) → Prop
def PSet (X : Cx) (t : TSet) : Prop :=
  ∀ (pins : List (Addr × Obj)) (s : Shared) (σ : St) (H : Hp) (o i v : V) (ov iv u : Value) (Q : Hp → Prop), Inv X pins σ H s → RelV o ov → RelV i iv → RelV v u → t o i v H Q →
    wpAny (model X.prog X.w) X.A (setItem ov iv u) (fun _ s' => ∃ H', Inv X pins σ H' s' ∧ Q H') X.xe s
/-- a op= b, by values -/
abbrev TIp := V → V → Hp → VK → Prop
def PIp (X : Cx) (op : Operator) (t : TIp) : Prop :=
  ∀ (pins : List (Addr × Obj)) (s : Shared) (σ : St) (H : Hp) (x y : V) (v u : Value) (Q : VK), Inv X pins σ H s → RelV x v → RelV y u → t x y H Q →
    wpAny (model X.prog X.w) X.A (inplaceOp op v u) (EP X pins σ Q) X.xe s
section
variable {X : Cx} {pos : Pos}
def gName (i : Nat) : TG := fun v σ H Q => Q (σ.set i (some v)) H
theorem pg_name {i : Nat} {x : Str} (hN : X.N.Nodup) (hi : X.N[i]? = some x) (hx : Loc X.env.scope x) (hf : X.fn x = true ∨ X.env.scope.names.lookup x = some .local := by first | exact .inl rfl | exact .inr rfl | assumption) : PG X (.Name x pos) (gName i) := by
  intro pins s σ H v u Q I r h
  exact wpAny_assign_Name (store_ok I hN hi hx r (fun s' I' => ⟨_, H, I', h⟩) hf)
def gNil : TGs := fun vs σ H Q => vs = [] ∧ Q σ H
def gCons (t : TG) (u : TGs) : TGs := fun vs σ H Q => ∃ v r, vs = v :: r ∧ t v σ H fun σ' H' => u r σ' H' Q
/-- (a, b, ..) = a tuple of that length -/
def gTup (K : PySem.W.Frag) (n : Nat) (t : TGs) : TG := fun v σ H Q => ∃ a xs, v = .ref a ∧ SqT K H a xs ∧ xs.length = n ∧ t xs σ H Q
/-- o[i] = .. -/
def gSub (to ti : TE) (t : TSet) : TG := fun v σ H Q => to σ H fun o H1 => ti σ H1 fun i H2 => t o i v H2 fun H3 => Q σ H3
theorem pg_sub {o i : Expr} {to ti : TE} {t : TSet} (ho : PE X o to) (hi : PE X i ti) (hs : PSet X t)
    (ha : ∀ v, assign (.Subscript o i pos) X.env v = (do
      let ov ← holding [v] (eval o X.env)
      let iv ← holding [v, ov] (eval i X.env)
      standAt pos
      holding [v, ov, iv] (setItem ov iv v)
      release [v, ov, iv] []) := by intro _; rfl) : PG X (.Subscript o i pos) (gSub to ti t) := by
  intro pins s σ H v u Q I r h
  rw [ha]
  refine wpAny_bind (wpAny_holding (thn (ho pins s σ H _ I h) fun ov s1 ⟨x, H1, I1, r1, q1⟩ => ?_))
  refine wpAny_bind (wpAny_holding (thn (hi pins s1 σ H1 _ I1 q1) fun iv s2 ⟨y, H2, I2, r2, q2⟩ => ?_))
  refine wpAny_bind (wpAny_standAt (wpAny_bind (wpAny_holding (thn (hs pins s2 σ H2 x y v ov iv u _ I2 r1 r2 r q2) fun _ s3 ⟨H3, I3, q3⟩ => ?_))))
  exact wpAny_release ⟨σ, H3, I3, q3⟩
/-- target = value -/
def tAsg (te : TE) (g : TG) : TS := fun D σ H => te σ H fun x H1 => g x σ H1 D.nx
theorem ps_asg {tg e : Expr} {te : TE} {g : TG} (he : PE X e te) (hg : PG X tg g) (hs : swapsWithSole [tg] e pos.line X.env = pure false := by rfl) (hw : swappedStores [tg] e X.env = pure none := by rfl)
    (h1 : (assignEach [tg] X.env).map (·.2) = [assign tg X.env] := by rfl) : PS X (.Assign [tg] e pos) (tAsg te g) := by
  intro pins s σ H D I h
  refine wpAny_Assign_stores (thn (he pins s σ H _ I h) fun v s1 ⟨x, H1, I1, r1, q1⟩ => ?_) hs hw
  rw [h1]
  exact thn (hg pins s1 σ H1 x v _ I1 r1 q1) fun _ s2 q => q
/-- name = value -/
theorem ps_set {i : Nat} {x : Str} {e : Expr} {te : TE} {pos' : Pos} (hN : X.N.Nodup) (hi : X.N[i]? = some x) (hx : Loc X.env.scope x) (he : PE X e te) (hs : swapsWith e (some (.Name x pos')) pos.line X.env = pure false := by rfl) (hf : X.fn x = true ∨ X.env.scope.names.lookup x = some .local := by first | exact .inl rfl | exact .inr rfl | assumption) :
    PS X (.Assign [.Name x pos'] e pos) (tAsg te (gName i)) := by
  intro pins s σ H D I h
  refine wpAny_Assign_Name (thn (he pins s σ H _ I h) fun v s1 ⟨y, H1, I1, r1, q1⟩ => ?_) hs
  exact store_ok I1 hN hi hx r1 (fun s2 I2 => ⟨_, H1, I2, q1⟩) hf
/-- a, b = x, y with plain local names: stored from the right; the pair itself is not tracked (the opening rows as in PyProof/Rows/TupAssign.lean:23) -/
def tPar (i j : Nat) (ta : TA) : TS := fun D σ H => ta σ H fun vs H1 => ∃ v w, vs = [v, w] ∧ D.nx ((σ.set i (some v)).set j (some w)) H1
theorem ps_par {i j : Nat} {x y : Str} {a b : Expr} {ta : TA} {px py pt : Pos} {kt k2 pt2} (hc : X.calm = true) (hN : X.N.Nodup) (hi : X.N[i]? = some x) (hj : X.N[j]? = some y) (hij : i ≠ j)
    (hx : X.env.scope.names.lookup x = some .local) (hy : X.env.scope.names.lookup y = some .local) (ha : PA X [a, b] ta)
    (hw : swappedStores [.Tuple [.Name x px, .Name y py] kt pt] (.Tuple [a, b] k2 pt2) X.env = pure (some [x, y]))
    (hs : swapsWithSole [.Tuple [.Name x px, .Name y py] kt pt] (.Tuple [a, b] k2 pt2) pos.line X.env = pure false := by rfl) :
    PS X (.Assign [.Tuple [.Name x px, .Name y py] kt pt] (.Tuple [a, b] k2 pt2) pos) (tPar i j ta) := by
  intro pins s σ H D I h
  rw [exec_Assign_arm]
  refine wpAny_bind (wpAny_standAt ?_)
  rw [hs]
  refine wpAny_bind (wpAny_pure ?_)
  rw [if_neg (by decide)]
  refine wpAny_bind (Tuple_ (thn (ha _ pins s σ H _ I h) fun us s1 ⟨vs, H1, I1, r1, q1⟩ => ?_))
  obtain ⟨v, w, e1, q1⟩ := q1
  subst e1
  obtain ⟨u1, u2, rfl, rv, rw'⟩ : ∃ u1 u2, us = [u1, u2] ∧ RelV v u1 ∧ RelV w u2 := by
    cases r1 with
    | cons p q =>
      cases q with
      | cons p' q' =>
        cases q'
        exact ⟨_, _, rfl, p, p'⟩
  refine wpAny_newObj_type ?_ (by show 2 ≤ sizeLine; decide)
  have I2 : Inv X pins σ H1 { s1 with heap := s1.heap.push { cls := .type "tuple", data := .seq [u1, u2].toArray } } := I1.kept (t' := s1.toks) fun b o e => Heap.get?_push_of_some _ e
  rw [hw]
  refine wpAny_bind (wpAny_pure ?_)
  show wpAny (model X.prog X.w) X.A (do rule "assign.swapped-stores"; let items ← unpackItems (.ref s1.heap.objs.size) 2 none; assignInOrder [fun v => bindName X.env y v, fun v => bindName X.env x v] items.reverse; pure Flow.next) _ _ _
  refine wpAny_bind (wpAny_rule (wpAny_bind (unpackItems_tuple (items := #[u1, u2]) (I.ok.hd hc) (IsTup.new s1.heap _) fun h' hx' => ?_)))
  have I3 := I2.kept (h' := h') (t' := s1.toks) fun b o e => hx' b o (Nat.ne_of_lt (Heap.lt_size e)) e
  show wpAny _ _ (assignInOrder [fun v => bindName X.env y v, fun v => bindName X.env x v] [u2, u1] >>= fun _ => pure Flow.next) _ _ _
  refine wpAny_bind (assignInOrder_cons (wpAny_bindName (store_ok I3 hN hj (.inl hy) rw' (fun s2 I4 => ?_) (.inr hy))))
  refine assignInOrder_cons (wpAny_bindName (store_ok I4 hN hi (.inl hx) rv (fun s3 I5 => assignInOrder_nil (wpAny_pure ?_)) (.inr hx)))
  rw [List.set_comm _ _ (Ne.symm hij)] at I5
  exact ⟨_, H1, I5, q1⟩
/-- name op= e -/
def tAug (i : Nat) (te : TE) (ti : TIp) : TS := fun D σ H => ∃ x, σ[i]? = some (some x) ∧ te σ H fun y H1 => ti x y H1 fun z H2 => D.nx (σ.set i (some z)) H2
/-- o[i] op= e -/
def tAugS (to ti te : TE) (tget : V → V → Hp → VK → Prop) (tip : TIp) (tset : TSet) : TS := fun D σ H => to σ H fun o H1 => ti σ H1 fun i H2 => tget o i H2 fun x H3 => te σ H3 fun y H4 => tip x y H4 fun z H5 => tset o i z H5 fun H6 => D.nx σ H6
/-- o[i], by values -/
def PGet (X : Cx) (t : V → V → Hp → VK → Prop) : Prop :=
  ∀ (pins : List (Addr × Obj)) (s : Shared) (σ : St) (H : Hp) (o i : V) (ov iv : Value) (Q : VK), Inv X pins σ H s → RelV o ov → RelV i iv → t o i H Q →
    wpAny (model X.prog X.w) X.A (getItem ov iv) (EP X pins σ Q) X.xe s
/-- ints -/
def ipI (f : Int → Int → Int) : TIp := fun x y H Q => ∃ i j, x = .int i ∧ y = .int j ∧ Q (.int (f i j)) H
end

/-! ### while -/
section
variable {X : Cx} {pos : Pos}
/-- the invariant W with its measure -/
def tWhile (c : TT) (tb : TS) : TS := fun D σ H => ∃ W : Nat → St → Hp → Prop, (∃ m, W m σ H) ∧ ∀ m σ H, W m σ H →
  c σ H fun b H1 => if b = true then ∃ N : St → Hp → Prop, (∀ σ' H', N σ' H' → ∃ m', m' < m ∧ W m' σ' H') ∧ tb { D with nx := N, ct := N, bk := D.nx } σ H1 else D.nx σ H1
theorem ps_while {c : Expr} {body : List Stmt} {tc : TT} {tb : TS} (hp : PassesOwn (model X.prog X.w) X.A X.env X.xe) (hc : PT X c tc) (hb : PSs X body tb) : PS X (.While c body [] pos) (tWhile tc tb) := by
  intro pins s σ H D I h
  obtain ⟨W, ⟨m0, w0⟩, turn⟩ := h
  refine wpAny_While (codeAny_whileLoop (fun n s' => ∃ σ' H', Inv X pins σ' H' s' ∧ W n σ' H') ?_ m0 ⟨σ, H, I, w0⟩)
  rintro n s1 ⟨σ1, H1, I1, w1⟩
  refine wpAny_passesOwn hp (thn (hc pins s1 σ1 H1 _ I1 (turn n σ1 H1 w1)) fun b s2 ⟨H2, I2, q2⟩ => ?_)
  cases b with
  | true =>
    obtain ⟨N, hN, q2⟩ := q2
    rw [if_pos rfl]
    refine wpAny_passesOwn hp (thn (hb pins s2 σ1 H2 _ I2 q2) fun f s3 q3 => ?_)
    cases f with
    | next =>
      obtain ⟨σ3, H3, I3, n3⟩ := q3
      obtain ⟨m', hm, w3⟩ := hN σ3 H3 n3
      exact ⟨m', hm, σ3, H3, I3, w3⟩
    | cont =>
      obtain ⟨σ3, H3, I3, n3⟩ := q3
      obtain ⟨m', hm, w3⟩ := hN σ3 H3 n3
      exact ⟨m', hm, σ3, H3, I3, w3⟩
    | brk => exact q3
    | ret v => exact q3
  | false =>
    rw [if_neg Bool.false_ne_true]
    exact wpAny_execs_nil ⟨σ1, H2, I2, q2⟩
end

/-! ### what a loop or a comprehension walks -/
/-- at turn i: it yields x (the heap may grow), or it stops -/
structure It where
  go : Nat → Hp → Prop
  yld : Nat → Hp → V → Hp → Prop
  stop : Nat → Hp → Prop
/-- the iterator's own objects may turn: they are not the frame's, not pinned, younger than the entry (or a comprehension's own) -/
def FpOk (X : Cx) (pins : List (Addr × Obj)) (H : Hp) (b : Addr) : Prop :=
  H b = none ∧ b ≠ X.env.locals ∧ b ∉ X.fs ∧ (b ∈ X.ex ∨ X.s₀.heap.objs.size ≤ b) ∧ (∀ x c, X.env.cells.lookup x = some c → c ≠ b) ∧ ∀ p ∈ X.pn ++ pins, p.1 ≠ b
theorem Inv.fpOk {X : Cx} {pins : List (Addr × Obj)} {σ : St} {H H' : Hp} {s : Shared} {b : Addr} (I : Inv X pins σ H s) (hb : s.heap.objs.size ≤ b) (hn : H' b = none) : FpOk X pins H' b := by
  refine ⟨hn, Nat.ne_of_gt (Nat.lt_of_lt_of_le I.lt hb), I.nofs hb, .inr (Nat.le_trans I.sz hb), fun x c e z => ?_, fun p hp z => ?_⟩
  · obtain ⟨v, q⟩ := I.cell x c e
    exact absurd (Nat.lt_of_lt_of_le q.lt (by rw [z]; exact hb)) (Nat.lt_irrefl _)
  · exact absurd (Nat.lt_of_lt_of_le (Heap.lt_size (I.pin p hp).1) (by rw [z]; exact hb)) (Nat.lt_irrefl _)
structure Turn (P : Program) (w : World) (K : PySem.W.Frag) (tg : Expr) (J : It) (fp : List Addr) (it : Addr) (tn : Nat → Heap → Prop) : Prop where
  mem : it ∈ fp
  obj : ∀ i h, tn i h → ∀ b ∈ fp, ∃ o, h.get? b = some o ∧ ∀ v, o.data ≠ .cell v
  keep : ∀ i h h', tn i h → (∀ b ∈ fp, ∀ o, h.get? b = some o → h'.get? b = some o) → tn i h'
  item : ∀ (X : Cx), X.prog = P → X.w = w → X.K = K → X.calm = true → ∀ (i : Nat) (pins : List (Addr × Obj)) (s : Shared) (σ : St) (H : Hp) (E : Value → Shared → Prop), Inv X pins σ H s → (∀ b ∈ fp, FpOk X pins H b) → tn i s.heap → J.go i H →
    wpAny (model P w) X.A (pyNext (.ref it)) (fun r s1 => ∃ u, r = some u ∧
      wpAny (model P w) X.A (letOwnedTupleGo tg (.ref it) u) (fun _ s2 => ∃ x H', Inv X pins σ H' s2 ∧ RelV x u ∧ J.yld i H x H' ∧ tn (i + 1) s2.heap ∧ ∀ b ∈ fp, H' b = none) E s1) E s
  done : ∀ (X : Cx), X.prog = P → X.w = w → X.K = K → X.calm = true → ∀ (i : Nat) (pins : List (Addr × Obj)) (s : Shared) (σ : St) (H : Hp) (E : Value → Shared → Prop), Inv X pins σ H s → (∀ b ∈ fp, FpOk X pins H b) → tn i s.heap → J.stop i H →
    wpAny (model P w) X.A (pyNext (.ref it)) (fun r s1 => r = none ∧ Inv X pins σ H s1) E s
  self : ∀ (A : Around) (i : Nat) (s : Shared) (Q : Value → Shared → Prop) (E : Value → Shared → Prop), tn i s.heap → Q (.ref it) s → wpAny (model P w) A (pyIter (.ref it)) Q E s
abbrev TI := St → Hp → (It → Hp → Prop) → Prop
/-- an iterator has come -/
def PIE (X : Cx) (pins : List (Addr × Obj)) (σ : St) (tg : Expr) (R : It → Hp → Prop) (itv : Value) (s2 : Shared) : Prop :=
  ∃ (it : Addr) (fp : List Addr) (tn : Nat → Heap → Prop) (J : It) (H' : Hp), itv = .ref it ∧ Inv X pins σ H' s2 ∧ Turn X.prog X.w X.K tg J fp it tn ∧ tn 0 s2.heap ∧ (∀ b ∈ fp, FpOk X pins H' b) ∧ R J H'
def PI (X : Cx) (tg iter : Expr) (wi : TI) : Prop :=
  ∀ (pins : List (Addr × Obj)) (s : Shared) (σ : St) (H : Hp) (R : It → Hp → Prop), Inv X pins σ H s → wi σ H R →
    wpAny (model X.prog X.w) X.A (eval iter X.env) (fun v s1 => wpAny (model X.prog X.w) X.A (pyIter v) (PIE X pins σ tg R) X.xe s1) X.xe s

/-- the step ahead of the store is nothing for an iterator that keeps no tuple -/
theorem go_of {M : Model} {A : Around} {E : Value → Shared → Prop} {s : Shared} {tg : Expr} {it : Addr} {u : Value} {o : Obj} {n : String} {vs : Array Value} {Q : Unit → Shared → Prop} (ho : s.heap.get? it = some o) (hc : o.cls = .type n) (hd : o.data = .fields vs)
    (hn : ["enumerate", "zip", "dict_itemiterator", "dict_reverseitemiterator", "odict_iterator", "itertools.zip_longest", "itertools.pairwise"].contains n = false) (hQ : Q () s) : wpAny M A (letOwnedTupleGo tg (.ref it) u) Q E s := by
  unfold letOwnedTupleGo
  cases tg <;> first
    | exact wpAny_pure hQ
    | (cases u <;> first
        | exact wpAny_pure hQ
        | (refine wpAny_bind (wpAny_load ho ?_)
           rw [hc, hd]
           show wpAny M A (if (["enumerate", "zip", "dict_itemiterator", "dict_reverseitemiterator", "odict_iterator", "itertools.zip_longest", "itertools.pairwise"].contains n && vs[0]? == some (rawInt _)) = true then _ else _) Q E s
           rw [if_neg (by intro h; rw [hn, Bool.false_and] at h; cases h)]
           exact wpAny_pure hQ))

/-- the list at a, as it stands at each turn (a loop may append to it) -/
def Itl (K : PySem.W.Frag) (a : Addr) : It :=
  ⟨fun i H => ∃ xs x, SqL K H a xs ∧ xs[i]? = some x, fun i H x H' => H' = H ∧ ∀ xs, SqL K H a xs → xs[i]? = some x, fun i H => ∃ xs, SqL K H a xs ∧ xs.length ≤ i⟩
def Itt (K : PySem.W.Frag) (a : Addr) : It :=
  ⟨fun i H => ∃ xs x, SqT K H a xs ∧ xs[i]? = some x, fun i H x H' => H' = H ∧ ∀ xs, SqT K H a xs → xs[i]? = some x, fun i H => ∃ xs, SqT K H a xs ∧ xs.length ≤ i⟩
/-- lo, lo + 1, .. (n of them) -/
def Itr (lo : Int) (n : Nat) : It := ⟨fun i _ => i < n, fun i H x H' => H' = H ∧ x = .int (lo + i), fun i _ => n ≤ i⟩
theorem turn_tuple {P : Program} {w : World} {K : PySem.W.Frag} {tg : Expr} (a it : Addr) : Turn P w K tg (Itt K a) [it] it (fun i h => h.IsTupleIter it a i) where
  mem := by simp
  obj := fun i h st b hb => by
    have e : b = it := by simpa using hb
    subst e
    obtain ⟨o, e, c, d⟩ := st
    exact ⟨o, e, fun v z => by rw [d] at z; cases z⟩
  keep := fun i h h' st k => st.at fun o e => k it (by simp) o e
  item := by
    intro X hP hw hK hc i pins s σ H E I hf st hg
    subst hP hw hK
    obtain ⟨xs, x, hq, hx⟩ := hg
    obtain ⟨its, rv, p, hz⟩ := I.tuple hq
    obtain ⟨u, hu, ru⟩ := rv.get hx
    obtain ⟨f0, f1, f2, f3, f4, f5⟩ := hf it (by simp)
    refine wpAny_pyNext_tuple_item st (show s.heap.IsTuple a its.toArray from p) (x := u) (by simpa using hu) fun h' st' sb => ?_
    have I1 : Inv X pins σ H { s with heap := h' } := I.turned (t' := s.toks) (fun b o hb e => (sb.2 b hb).trans e) f0 f1 f3 f4 f5
    obtain ⟨o, e, c, d⟩ := id st'
    exact ⟨u, rfl, go_of (s := { s with heap := h' }) e c d (by decide) ⟨x, H, I1, ru, ⟨rfl, fun ys hy => by rw [I.tuple_inj hy hq]; exact hx⟩, st', fun b hb => (hf b hb).1⟩⟩
  done := by
    intro X hP hw hK hc i pins s σ H E I hf st hg
    subst hP hw hK
    obtain ⟨xs, hq, hx⟩ := hg
    obtain ⟨its, rv, p, hz⟩ := I.tuple hq
    obtain ⟨f0, f1, f2, f3, f4, f5⟩ := hf it (by simp)
    have hl := rv.length
    exact wpAny_pyNext_tuple_end (I.ok.hd hc) st (show s.heap.IsTuple a its.toArray from p) (by simp; omega) fun h' eb => ⟨rfl, I.turned (t' := s.toks) (fun b o hb e => eb b o hb e) f0 f1 f3 f4 f5⟩
  self := fun _ _ _ _ _ st h => wpAny_pyIter_tupleiter st h
theorem turn_range {P : Program} {w : World} {K : PySem.W.Frag} {tg : Expr} (it : Addr) (lo : Int) (n : Nat) : Turn P w K tg (Itr lo n) [it] it (fun i h => IsRangeIter h it (lo + (i : Nat) * 1) ((n : Int) - (i : Nat)) 1) where
  mem := by simp
  obj := fun i h st b hb => by
    have e : b = it := by simpa using hb
    subst e
    exact ⟨_, st, fun v z => by
      have z' : Data.fields _ = Data.cell v := z
      cases z'⟩
  keep := fun i h h' st k => k it (by simp) _ st
  item := by
    intro X hP hw hK hc i pins s σ H E I hf st hg
    subst hP hw hK
    obtain ⟨f0, f1, f2, f3, f4, f5⟩ := hf it (by simp)
    have W := Walks.range (prog := X.prog) (w := X.w) (I.ok.hd hc) it lo 1 n
    refine W.item i s _ _ hg st fun v h' tk hv st' kk => ?_
    obtain ⟨t, rfl⟩ := hv
    have I1 : Inv X pins σ H { s with heap := h', toks := tk } := I.turned (fun b o hb e => kk b o (by simpa using hb) e) f0 f1 f3 f4 f5
    refine ⟨_, rfl, go_of (s := { s with heap := h', toks := tk }) (n := "range_iterator") st' rfl rfl (by decide) ⟨.int (lo + i), H, I1, ⟨t, ?_⟩, ⟨rfl, rfl⟩, st', fun b hb => (hf b hb).1⟩⟩
    rw [Int.mul_one]
  done := by
    intro X hP hw hK hc i pins s σ H E I hf st hg
    subst hP hw hK
    obtain ⟨f0, f1, f2, f3, f4, f5⟩ := hf it (by simp)
    exact wpAny_pyNext_range_end (I.ok.hd hc) st (by have : n ≤ i := hg; omega) fun h' eb => ⟨rfl, I.turned (t' := s.toks) (fun b o hb e => eb b o hb e) f0 f1 f3 f4 f5⟩
  self := fun _ _ _ _ _ st h => wpAny_pyIter_rangeiter st h
end L2

namespace L2
open PySem PySem.Spec PyProof.Rows
section
variable {X : Cx} {tg : Expr}
def iList (K : PySem.W.Frag) (tl : TE) : TI := fun σ H R => tl σ H fun x H1 => ∃ a, x = .ref a ∧ (∃ xs, SqL K H1 a xs) ∧ R (Itl K a) H1
def iTup (K : PySem.W.Frag) (tl : TE) : TI := fun σ H R => tl σ H fun x H1 => ∃ a, x = .ref a ∧ (∃ xs, SqT K H1 a xs) ∧ R (Itt K a) H1
theorem pi_tup {l : Expr} {tl : TE} (hl : PE X l tl) : PI X tg l (iTup X.K tl) := by
  intro pins s σ H R I h
  refine thn (hl pins s σ H _ I h) fun v s1 ⟨x, H1, I1, r1, q1⟩ => ?_
  obtain ⟨a, e, ⟨xs, hq⟩, q⟩ := q1
  subst e
  cases r1
  obtain ⟨its, rv, p, hz⟩ := I1.tuple hq
  refine wpAny_pyIter_tuple (show s1.heap.IsTuple a its.toArray from p) ?_
  refine ⟨s1.heap.objs.size, [s1.heap.objs.size], _, _, H1, rfl, I1.kept (t' := s1.toks) fun b o e => Heap.get?_push_of_some _ e, turn_tuple a _, ⟨_, Heap.get?_push_size _ rfl, rfl, rfl⟩, fun b hb => ?_, q⟩
  have e : b = s1.heap.objs.size := by simpa using hb
  subst e
  exact I1.fpOk (Nat.le_refl _) (I1.hok.fresh (Nat.le_refl _))
/-- a range object just made, walked -/
theorem range_it {pins : List (Addr × Obj)} {σ : St} {H : Hp} {s : Shared} {R : It → Hp → Prop} {E : Value → Shared → Prop} {lo hi : Int} {t u v : Tok} {tk : Nat} (I : Inv X pins σ H s) (h1 : -(2 ^ 62) ≤ lo) (h2 : lo < 2 ^ 62) (h3 : -(2 ^ 62) ≤ hi) (h4 : hi < 2 ^ 62)
    (q : R (Itr lo (hi - lo).toNat) H) : wpAny (model X.prog X.w) X.A (pyIter (.ref s.heap.objs.size)) (PIE X pins σ tg R) E { s with heap := s.heap.push { cls := .type "range", data := .fields #[.int lo t, .int hi u, .int 1 v] }, toks := tk } := by
  refine wpAny_pyIter_range (IsRange.new ..) (small_one h1 h2 h3 h4) ?_
  have I1 : Inv X pins σ H { s with heap := s.heap.push { cls := .type "range", data := .fields #[.int lo t, .int hi u, .int 1 v] }, toks := tk } := I.kept fun b o e => Heap.get?_push_of_some _ e
  refine ⟨(s.heap.push { cls := .type "range", data := .fields #[.int lo t, .int hi u, .int 1 v] }).objs.size, [(s.heap.push { cls := .type "range", data := .fields #[.int lo t, .int hi u, .int 1 v] }).objs.size], _, _, H, rfl,
    I1.kept (t' := tk) fun b o e => Heap.get?_push_of_some _ e, turn_range _ lo (hi - lo).toNat, ?_, fun b hb => ?_, q⟩
  · have e1 : lo + ((0 : Nat) : Int) * 1 = lo := by simp
    have e2 : (((hi - lo).toNat : Nat) : Int) - ((0 : Nat) : Int) = Builtin.Range.rangeSize lo hi 1 := by rw [rangeSize_one]; split <;> omega
    show IsRangeIter _ _ (lo + ((0 : Nat) : Int) * 1) ((((hi - lo).toNat : Nat) : Int) - ((0 : Nat) : Int)) 1
    rw [e1, e2]
    exact Heap.get?_push_size _ rfl
  · have e : b = (s.heap.push { cls := .type "range", data := .fields #[.int lo t, .int hi u, .int 1 v] }).objs.size := by simpa using hb
    subst e
    exact I1.fpOk (Nat.le_refl _) (I1.hok.fresh (Nat.le_refl _))
def iRng1 (ta : TA) : TI := fun σ H R => ta σ H fun vs H1 => ∃ j : Int, vs = [.int j] ∧ -(2 ^ 62) ≤ j ∧ j < 2 ^ 62 ∧ R (Itr 0 j.toNat) H1
def iRng2 (ta : TA) : TI := fun σ H R => ta σ H fun vs H1 => ∃ i j : Int, vs = [.int i, .int j] ∧ (-(2 ^ 62) ≤ i ∧ i < 2 ^ 62 ∧ -(2 ^ 62) ≤ j ∧ j < 2 ^ 62) ∧ R (Itr i (j - i).toNat) H1
theorem pi_range1 {a : Expr} {ta : TA} {p pos : Pos} (hg : Gl X "range") (hm : X.mg "range" = none) (ha : PA X [a] ta) (hs : starEach [a] X.env = [(false, eval a X.env)] := by rfl) : PI X tg (.Call (.Name "range" p) [a] [] pos) (iRng1 ta) := by
  intro pins s σ H R I h
  refine Call_ (ld_blt I hg hm boot_range (PyProof.Rows.callWith_type1 (thn (ha pos pins s σ H _ I h) fun us s1 ⟨vs, H1, I1, r1, q1⟩ => ?_) hs rfl))
  obtain ⟨j, e, q1, q2, q⟩ := q1
  subst e
  cases r1 with
  | cons r rr =>
    cases rr
    obtain ⟨t, rfl⟩ := r
    exact call_range_1 (range_it I1 (by omega) (by omega) q1 q2 (by simpa using q))
theorem pi_range2 {a b : Expr} {ta : TA} {p pos : Pos} (hg : Gl X "range") (hm : X.mg "range" = none) (ha : PA X [a, b] ta) (hs : starEach [a, b] X.env = [(false, eval a X.env), (false, eval b X.env)] := by rfl) (hs2 : starEach [b] X.env = [(false, eval b X.env)] := by rfl) :
    PI X tg (.Call (.Name "range" p) [a, b] [] pos) (iRng2 ta) := by
  intro pins s σ H R I h
  refine Call_ (ld_blt I hg hm boot_range (PyProof.Rows.callWith_type1 (thn (ha pos pins s σ H _ I h) fun us s1 ⟨vs, H1, I1, r1, q1⟩ => ?_) (by rw [hs, hs2]) (by rw [hs2]; rfl)))
  obtain ⟨i, j, e, ⟨q1, q2, q3, q4⟩, q⟩ := q1
  subst e
  cases r1 with
  | cons r rr =>
    cases rr with
    | cons r' rr =>
      cases rr
      obtain ⟨t, rfl⟩ := r
      obtain ⟨t', rfl⟩ := r'
      exact call_range_2 (range_it I1 q1 q2 q3 q4 q)

/-! ### for -/
/-- W: the invariant by the turn and a measure; N: what the body is to reach -/
def tFor (wi : TI) (g : TG) (tb : TS) : TS := fun D σ H => wi σ H fun J H1 => ∃ W : Nat → Nat → St → Hp → Prop, (∃ m, W 0 m σ H1) ∧ ∀ i m σ H, W i m σ H →
  (J.stop i H ∧ D.nx σ H) ∨ (J.go i H ∧ ∃ N : St → Hp → Prop, (∀ σ' H', N σ' H' → ∃ m', m' < m ∧ W (i + 1) m' σ' H') ∧ ∀ x H', J.yld i H x H' → g x σ H' fun σ2 H2 => tb { D with nx := N, ct := N, bk := D.nx } σ2 H2)
/-- the records at fp as they stand -/
def pinsAt (fp : List Addr) (h : Heap) : List (Addr × Obj) := fp.filterMap fun b => (h.get? b).map fun o => (b, o)
theorem mem_pinsAt {fp : List Addr} {h : Heap} {b : Addr} {o : Obj} (hb : b ∈ fp) (e : h.get? b = some o) : (b, o) ∈ pinsAt fp h := List.mem_filterMap.mpr ⟨b, hb, by rw [e]; rfl⟩
theorem of_pinsAt {fp : List Addr} {h : Heap} {p : Addr × Obj} (hp : p ∈ pinsAt fp h) : p.1 ∈ fp ∧ h.get? p.1 = some p.2 := by
  obtain ⟨b, hb, e⟩ := List.mem_filterMap.mp hp
  cases q : h.get? b with
  | none => rw [q] at e; cases e
  | some o =>
    rw [q] at e
    have e' : (b, o) = p := Option.some.inj e
    subst e'
    exact ⟨hb, q⟩
theorem Inv.pinned {pins : List (Addr × Obj)} {σ : St} {H : Hp} {s : Shared} {fp : List Addr} (I : Inv X pins σ H s) (hf : ∀ b ∈ fp, FpOk X pins H b) (ho : ∀ b ∈ fp, ∃ o, s.heap.get? b = some o ∧ ∀ v, o.data ≠ .cell v) : Inv X (pins ++ pinsAt fp s.heap) σ H s :=
  I.pins_of fun p hp => (List.mem_append.mp hp).elim (fun z => I.pin p (List.mem_append_right _ z)) fun z => by
    obtain ⟨hb, e⟩ := of_pinsAt z
    obtain ⟨f0, f1, f2, _⟩ := hf p.1 hb
    obtain ⟨o, e', d⟩ := ho p.1 hb
    rw [e] at e'; cases e'
    exact ⟨e, f0, f1, f2, d⟩
theorem Inv.unpinned {pins pl : List (Addr × Obj)} {σ : St} {H : Hp} {s : Shared} (I : Inv X (pins ++ pl) σ H s) : Inv X pins σ H s := I.pins_of fun p hp => I.pin p (List.mem_append_right _ (List.mem_append_left _ hp))
theorem ps_for {iter : Expr} {body : List Stmt} {wi : TI} {g : TG} {tb : TS} {pos : Pos} (hp : PassesOwn (model X.prog X.w) X.A X.env X.xe) (hc : X.calm = true) (hi : PI X tg iter wi) (hg : PG X tg g) (hb : PSs X body tb)
    (hs : ∀ x, foldedSetIterable iter X.env x = pure x := by intro _; rfl) : PS X (.For tg iter body [] pos) (tFor wi g tb) := by
  intro pins s σ H D I h
  refine wpAny_For (thn (hi pins s σ H _ I h) fun v s1 h1 => thn h1 fun itv s2 h2 => ?_) hs
  obtain ⟨it, fp, tn, J, H2, e, I2, T, st2, f2, W, ⟨m0, w0⟩, turn⟩ := h2
  subst e
  -- what stays true of the iterator's objects through the loop
  have stat : ∀ {H' : Hp}, (∀ b ∈ fp, H' b = none) → ∀ b ∈ fp, FpOk X pins H' b := fun hn b hb => ⟨hn b hb, (f2 b hb).2⟩
  refine codeAny_forLoop_any (fun n s' => ∃ i σ' H', Inv X pins σ' H' s' ∧ tn i s'.heap ∧ (∀ b ∈ fp, H' b = none) ∧ W i n σ' H') ?_ m0 ⟨0, σ, H2, I2, st2, fun b hb => (f2 b hb).1, w0⟩
  rintro n s3 ⟨i, σ3, H3, I3, st3, fr3, w3⟩
  rcases turn i n σ3 H3 w3 with ⟨stop, qn⟩ | ⟨go, N, hN, step⟩
  · refine wpAny_passesOwn hp (thn (T.done X rfl rfl rfl hc i pins s3 σ3 H3 X.xe I3 (stat fr3) st3 stop) fun r s4 ⟨hr, I4⟩ => ?_)
    subst hr
    exact wpAny_execs_nil ⟨σ3, H3, I4, qn⟩
  · refine wpAny_passesOwn hp (thn (T.item X rfl rfl rfl hc i pins s3 σ3 H3 X.xe I3 (stat fr3) st3 go) fun r s4 ⟨u, hr, h4⟩ => ?_)
    subst hr
    refine wpAny_passesOwn hp (thn h4 fun _ s5 ⟨x, H5, I5, r5, y5, st5, fr5⟩ => ?_)
    have I5' := I5.pinned (stat fr5) (T.obj _ _ st5)
    refine wpAny_passesOwn hp (thn (hg _ s5 σ3 H5 x u _ I5' r5 (step x H5 y5)) fun _ s6 ⟨σ6, H6, I6, q6⟩ => ?_)
    refine wpAny_passesOwn hp (thn (hb _ s6 σ6 H6 _ I6 q6) fun f s7 q7 => ?_)
    have again : ∀ {σ7 : St} {H7 : Hp}, Inv X (pins ++ pinsAt fp s5.heap) σ7 H7 s7 → N σ7 H7 → ∃ m, m < n ∧ ∃ i σ' H', Inv X pins σ' H' s7 ∧ tn i s7.heap ∧ (∀ b ∈ fp, H' b = none) ∧ W i m σ' H' := fun {σ7 H7} I7 n7 => by
      obtain ⟨m', hm, w7⟩ := hN σ7 H7 n7
      refine ⟨m', hm, i + 1, σ7, H7, I7.unpinned, T.keep _ _ _ st5 fun b hb o e => (I7.pin (b, o) (List.mem_append_right _ (List.mem_append_right _ (mem_pinsAt hb e)))).1, fun b hb => ?_, w7⟩
      obtain ⟨o, e, d⟩ := T.obj _ _ st5 b hb
      exact (I7.pin (b, o) (List.mem_append_right _ (List.mem_append_right _ (mem_pinsAt hb e)))).2.1
    cases f with
    | next => obtain ⟨σ7, H7, I7, n7⟩ := q7; exact again I7 n7
    | cont => obtain ⟨σ7, H7, I7, n7⟩ := q7; exact again I7 n7
    | brk => obtain ⟨σ7, H7, I7, q7⟩ := q7; exact ⟨σ7, H7, I7.unpinned, q7⟩
    | ret v => obtain ⟨x7, σ7, H7, I7, r7, q7⟩ := q7; exact ⟨x7, σ7, H7, I7.unpinned, r7, q7⟩
end

/-! ### the forms one uses -/
theorem for_range {lo : Int} {n : Nat} {g : TG} {tb : TS} {D : Ends} {σ : St} {H : Hp} (Pv : Nat → St → Hp → Prop) (h0 : Pv 0 σ H)
    (hs : ∀ i σ H, i < n → Pv i σ H → g (.int (lo + i)) σ H fun σ2 H2 => tb { D with nx := Pv (i + 1), ct := Pv (i + 1), bk := D.nx } σ2 H2) (hd : ∀ σ H, Pv n σ H → D.nx σ H) :
    ∃ W : Nat → Nat → St → Hp → Prop, (∃ m, W 0 m σ H) ∧ ∀ i m σ H, W i m σ H →
      ((Itr lo n).stop i H ∧ D.nx σ H) ∨ ((Itr lo n).go i H ∧ ∃ N : St → Hp → Prop, (∀ σ' H', N σ' H' → ∃ m', m' < m ∧ W (i + 1) m' σ' H') ∧ ∀ x H', (Itr lo n).yld i H x H' → g x σ H' fun σ2 H2 => tb { D with nx := N, ct := N, bk := D.nx } σ2 H2) := by
  refine ⟨fun i m σ H => m = n - i ∧ i ≤ n ∧ Pv i σ H, ⟨n, by simp, Nat.zero_le _, h0⟩, ?_⟩
  rintro i m σ H ⟨rfl, hi, p⟩
  by_cases hlt : i < n
  · refine .inr ⟨hlt, Pv (i + 1), fun σ' H' p' => ⟨n - (i + 1), by omega, rfl, hlt, p'⟩, fun x H' y => ?_⟩
    obtain ⟨e, y⟩ := y
    subst e y
    exact hs i σ _ hlt p
  · have e : i = n := by omega
    subst e
    exact .inl ⟨Nat.le_refl _, hd σ H p⟩
/-- while, by a word and a measure of the state -/
theorem while_by {c : TT} {tb : TS} {D : Ends} {σ : St} {H : Hp} (Pv : St → Hp → Prop) (μ : St → Hp → Nat) (h0 : Pv σ H)
    (hs : ∀ σ H, Pv σ H → c σ H fun b H1 => if b = true then tb { D with nx := fun σ' H' => Pv σ' H' ∧ μ σ' H' < μ σ H, ct := fun σ' H' => Pv σ' H' ∧ μ σ' H' < μ σ H, bk := D.nx } σ H1 else D.nx σ H1)
    (mono : ∀ σ H Q Q', (∀ b H1, Q b H1 → Q' b H1) → c σ H Q → c σ H Q') : tWhile c tb D σ H := by
  refine ⟨fun m σ H => m = μ σ H ∧ Pv σ H, ⟨_, rfl, h0⟩, ?_⟩
  rintro m σ H ⟨rfl, p⟩
  refine mono σ H _ _ (fun b H1 q => ?_) (hs σ H p)
  cases b with
  | true => exact ⟨_, fun σ' H' ⟨p', l⟩ => ⟨_, l, rfl, p'⟩, q⟩
  | false => exact q
end L2

namespace L2
open PySem PySem.Spec PyProof.Rows

abbrev R2 := V → V → Hp → VK → Prop
/-- a two-place operation on values: f is binaryOp op, inplaceOp op or compareOp op -/
def OpR (X : Cx) (f : Value → Value → Sem Value) (r : R2) : Prop :=
  ∀ (pins : List (Addr × Obj)) (s : Shared) (σ : St) (H : Hp) (x y : V) (v u : Value) (Q : VK), Inv X pins σ H s → RelV x v → RelV y u → r x y H Q →
    wpAny (model X.prog X.w) X.A (f v u) (EP X pins σ Q) X.xe s
/-- a one-place operation -/
def UnR (X : Cx) (f : Value → Sem Value) (r : V → Hp → VK → Prop) : Prop :=
  ∀ (pins : List (Addr × Obj)) (s : Shared) (σ : St) (H : Hp) (x : V) (v : Value) (Q : VK), Inv X pins σ H s → RelV x v → r x H Q →
    wpAny (model X.prog X.w) X.A (f v) (EP X pins σ Q) X.xe s
/-- a call of a value that is known (a builtin, a type) with values -/
def CallR (X : Cx) (f : Value) (r : List V → Hp → VK → Prop) : Prop :=
  ∀ (pins : List (Addr × Obj)) (s : Shared) (σ : St) (H : Hp) (xs : List V) (us : List Value) (Q : VK), Inv X pins σ H s → Vals xs us → r xs H Q →
    wpAny (model X.prog X.w) X.A (call f us) (EP X pins σ Q) X.xe s
/-- a value's truth -/
def TruR (X : Cx) (r : V → Hp → (Bool → Hp → Prop) → Prop) : Prop :=
  ∀ (pins : List (Addr × Obj)) (s : Shared) (σ : St) (H : Hp) (x : V) (v : Value) (Q : Bool → Hp → Prop), Inv X pins σ H s → RelV x v → r x H Q →
    wpAny (model X.prog X.w) X.A (truthy v) (TP X pins σ Q) X.xe s

def tOp (r : R2) (ta tb : TE) : TE := fun σ H Q => ta σ H fun x H1 => tb σ H1 fun y H2 => r x y H2 Q
def tUn (r : V → Hp → VK → Prop) (ta : TE) : TE := fun σ H Q => ta σ H fun x H1 => r x H1 Q
/-- ints in, under C, and a value out -/
def rI (C : Int → Int → Prop) (g : Int → Int → V) : R2 := fun x y H Q => ∃ i j, x = .int i ∧ y = .int j ∧ C i j ∧ Q (g i j) H
def rI0 (g : Int → Int → V) : R2 := fun x y H Q => ∃ i j, x = .int i ∧ y = .int j ∧ Q (g i j) H
def rU (g : Int → V) : V → Hp → VK → Prop := fun x H Q => ∃ i, x = .int i ∧ Q (g i) H

section
variable {X : Cx} {a b c : Expr} {ta tb tc : TE} {pos : Pos}

theorem binT (ha : PE X a ta) (hb : PE X b tb) {pins : List (Addr × Obj)} {s : Shared} {σ : St} {H : Hp} {R : V → V → Hp → Prop} (I : Inv X pins σ H s)
    (h : ta σ H fun x H1 => tb σ H1 fun y H2 => R x y H2) {Q : Value → Shared → Prop} {f : Value → Value → Sem Value}
    (hf : ∀ v u s2 x y H2, Inv X pins σ H2 s2 → RelV x v → RelV y u → R x y H2 → wpAny (model X.prog X.w) X.A (f v u) Q X.xe s2) :
    wpAny (model X.prog X.w) X.A (eval a X.env) (fun v s₁ => wpAny (model X.prog X.w) X.A (eval b X.env) (fun u s₂ => wpAny (model X.prog X.w) X.A (f v u) Q X.xe s₂) X.xe s₁) X.xe s := by
  refine thn (ha pins s σ H _ I h) fun v s1 ⟨x, H1, I1, r1, q1⟩ => ?_
  refine thn (hb pins s1 σ H1 _ I1 q1) fun u s2 ⟨y, H2, I2, r2, q2⟩ => ?_
  exact hf v u s2 x y H2 I2 r1 r2 q2

theorem pe_op {op : Operator} {r : R2} (ho : OpR X (binaryOp op) r) (ha : PE X a ta) (hb : PE X b tb) : PE X (.BinOp a op b pos) (tOp r ta tb) := by
  intro pins s σ H Q I h
  exact wpAny_BinOp (binT ha hb I h fun v u s2 x y H2 I2 rx ry q => ho pins s2 σ H2 x y v u Q I2 rx ry q)
theorem pe_un {op : UnaryOp} {r : V → Hp → VK → Prop} (ho : UnR X (unaryOp op) r) (ha : PE X a ta) : PE X (.UnaryOp op a pos) (tUn r ta) := by
  intro pins s σ H Q I h
  exact UnaryOp_ (thn (ha pins s σ H _ I h) fun v s1 ⟨x, H1, I1, r1, q1⟩ => ho pins s1 σ H1 x v Q I1 r1 q1)
/-! ### ints -/
theorem opI {f : Value → Value → Sem Value} {C : Int → Int → Prop} {g : Int → Int → Int}
    (rule : ∀ (i j : Int) (t u : Tok) (s : Shared) (Q : Value → Shared → Prop) (E : Value → Shared → Prop), C i j → Q (.int (g i j) s.toks) { s with toks := s.toks + 1 } → wpAny (model X.prog X.w) X.A (f (.int i t) (.int j u)) Q E s) :
    OpR X f (rI C fun i j => .int (g i j)) := by
  intro pins s σ H x y v u Q I rx ry h
  obtain ⟨i, j, rfl, rfl, hc, q⟩ := h
  obtain ⟨t, rfl⟩ := rx
  obtain ⟨t', rfl⟩ := ry
  exact rule i j t t' s _ _ hc ⟨.int (g i j), H, I.tok _, ⟨_, rfl⟩, q⟩
theorem opI0 {f : Value → Value → Sem Value} {g : Int → Int → Int}
    (rule : ∀ (i j : Int) (t u : Tok) (s : Shared) (Q : Value → Shared → Prop) (E : Value → Shared → Prop), Q (.int (g i j) s.toks) { s with toks := s.toks + 1 } → wpAny (model X.prog X.w) X.A (f (.int i t) (.int j u)) Q E s) :
    OpR X f (rI0 fun i j => .int (g i j)) := by
  intro pins s σ H x y v u Q I rx ry h
  obtain ⟨i, j, rfl, rfl, q⟩ := h
  obtain ⟨t, rfl⟩ := rx
  obtain ⟨t', rfl⟩ := ry
  exact rule i j t t' s _ _ ⟨.int (g i j), H, I.tok _, ⟨_, rfl⟩, q⟩
theorem opB0 {f : Value → Value → Sem Value} {g : Int → Int → Bool}
    (rule : ∀ (i j : Int) (t u : Tok) (s : Shared) (Q : Value → Shared → Prop) (E : Value → Shared → Prop), Q (.bool (g i j)) s → wpAny (model X.prog X.w) X.A (f (.int i t) (.int j u)) Q E s) :
    OpR X f (rI0 fun i j => .bl (g i j)) := by
  intro pins s σ H x y v u Q I rx ry h
  obtain ⟨i, j, rfl, rfl, q⟩ := h
  obtain ⟨t, rfl⟩ := rx
  obtain ⟨t', rfl⟩ := ry
  exact rule i j t t' s _ _ ⟨.bl (g i j), H, I, rfl, q⟩

def CDiv (i j : Int) : Prop := 0 < j ∧ j < 1073741824
def CDivN (i j : Int) : Prop := j ≠ 0 ∧ j.natAbs < 1073741824
def CPow (i j : Int) : Prop := 0 ≤ j ∧ j ≤ 1000000 ∧ i.natAbs < 2 ^ 64
def CMul (i j : Int) : Prop := (-(2 ^ 64) < i ∧ i < 2 ^ 64) ∨ (-(2 ^ 64) < j ∧ j < 2 ^ 64)
theorem op_add : OpR X (binaryOp .Add) (rI0 fun i j => .int (i + j)) := opI0 fun _ _ _ _ _ _ _ q => add_int q
theorem op_sub : OpR X (binaryOp .Sub) (rI0 fun i j => .int (i - j)) := opI0 fun _ _ _ _ _ _ _ q => sub_int q
/-- % by a positive divisor of any size -/
theorem op_mod : OpR X (binaryOp .Mod) (rI (fun _ j => 0 < j) fun i j => .int (i % j)) := opI fun i j _ _ _ _ _ hc q => by
  have h1 : (0 : Int) < j := hc
  exact mod_int' (by omega) (by rw [Int.fmod_eq_emod_of_nonneg i (by omega)]; exact q)
theorem unI {f : Value → Sem Value} {g : Int → Int}
    (rule : ∀ (i : Int) (t : Tok) (s : Shared) (Q : Value → Shared → Prop) (E : Value → Shared → Prop), Q (.int (g i) s.toks) { s with toks := s.toks + 1 } → wpAny (model X.prog X.w) X.A (f (.int i t)) Q E s) :
    UnR X f (rU fun i => .int (g i)) := by
  intro pins s σ H x v Q I rx h
  obtain ⟨i, rfl, q⟩ := h
  obtain ⟨t, rfl⟩ := rx
  exact rule i t s _ _ ⟨.int (g i), H, I.tok _, ⟨_, rfl⟩, q⟩
theorem un_neg : UnR X (unaryOp .USub) (rU fun i => .int (-i)) := unI fun _ _ _ _ _ q => neg_int q
/-! ### bools among ints: n += (a < b) -/
end

/-! ### comparisons -/
/-- the scalars that == tells apart as data does -/
def scal : V → V → Bool
  | .non, .non => true | .non, .int _ => true | .int _, .non => true | .non, .bl _ => true | .bl _, .non => true | .non, .str _ => true | .str _, .non => true
  | .int _, .int _ => true | .bl _, .bl _ => true | .str _, .str _ => true | .byt _, .byt _ => true
  | .int _, .str _ => true | .str _, .int _ => true | .bl _, .str _ => true | .str _, .bl _ => true
  | _, _ => false
def rEq : R2 := fun x y H Q => scal x y = true ∧ Q (.bl (decide (x = y))) H
def rNe : R2 := fun x y H Q => scal x y = true ∧ Q (.bl (!decide (x = y))) H

theorem dec_int {i j : Int} : decide (V.int i = V.int j) = (i == j) := by
  rw [Bool.eq_iff_iff]
  simp
theorem dec_bl {i j : Bool} : decide (V.bl i = V.bl j) = (i == j) := by
  rw [Bool.eq_iff_iff]
  simp
theorem dec_str {i j : Str} : decide (V.str i = V.str j) = (i == j) := by
  rw [Bool.eq_iff_iff]
  simp
theorem dec_byt {i j : Array UInt8} : decide (V.byt i = V.byt j) = (i.toList == j.toList) := by
  rw [Bool.eq_iff_iff]
  cases i
  cases j
  simp

section
variable {X : Cx} {a b c : Expr} {ta tb tc : TE} {pos : Pos}
theorem fin_bl {pins : List (Addr × Obj)} {σ : St} {H : Hp} {s : Shared} {Q : VK} {k k' : Bool} (I : Inv X pins σ H s) (q : Q (.bl k) H) (e : k = k') : EP X pins σ Q (.bool k') s := by
  subst e
  exact ⟨.bl k, H, I, rfl, q⟩
theorem op_eq : OpR X (compareOp .Eq) rEq := by
  intro pins s σ H x y v u Q I rx ry h
  obtain ⟨hs, q⟩ := h
  cases x with
  | non =>
    cases rx
    cases y with
    | non => cases ry; exact PySem.EqNone.eq_none_none (fin_bl I q (by simp))
    | bl j => cases ry; exact PySem.EqNone.eq_none_bool (fin_bl I q (by simp))
    | int j => obtain ⟨t', rfl⟩ := ry; exact PySem.EqNone.eq_none_int (fin_bl I q (by simp))
    | str j => obtain ⟨t', rfl⟩ := ry; exact PySem.EqNone.eq_none_str (fin_bl I q (by simp))
    | _ => exact absurd (show false = true from hs) Bool.false_ne_true
  | bl i =>
    cases rx
    cases y with
    | non => cases ry; exact PySem.EqNone.eq_bool_none (fin_bl I q (by simp))
    | bl j => cases ry; exact eq_bool (fin_bl I q dec_bl)
    | str j => obtain ⟨t', rfl⟩ := ry; exact PySem.EqMixed.eq_bool_str (fin_bl I q (by simp))
    | _ => exact absurd (show false = true from hs) Bool.false_ne_true
  | int i =>
    obtain ⟨t, rfl⟩ := rx
    cases y with
    | non => cases ry; exact PySem.EqNone.eq_int_none (fin_bl I q (by simp))
    | int j => obtain ⟨t', rfl⟩ := ry; exact eq_int (fin_bl I q dec_int)
    | str j => obtain ⟨t', rfl⟩ := ry; exact PySem.EqMixed.eq_int_str (fin_bl I q (by simp))
    | _ => exact absurd (show false = true from hs) Bool.false_ne_true
  | str i =>
    obtain ⟨t, rfl⟩ := rx
    cases y with
    | non => cases ry; exact PySem.EqNone.eq_str_none (fin_bl I q (by simp))
    | bl j => cases ry; exact PySem.EqMixed.eq_str_bool (fin_bl I q (by simp))
    | int j => obtain ⟨t', rfl⟩ := ry; exact PySem.EqMixed.eq_str_int (fin_bl I q (by simp))
    | str j => obtain ⟨t', rfl⟩ := ry; exact eq_str (fin_bl I q dec_str)
    | _ => exact absurd (show false = true from hs) Bool.false_ne_true
  | byt i =>
    obtain ⟨t, rfl⟩ := rx
    cases y with
    | byt j => obtain ⟨t', rfl⟩ := ry; exact PySem.W.eq_bytes (fin_bl I q dec_byt)
    | _ => exact absurd (show false = true from hs) Bool.false_ne_true
  | _ => cases y <;> exact absurd (show false = true from hs) Bool.false_ne_true
theorem op_ne : OpR X (compareOp .NotEq) rNe := by
  intro pins s σ H x y v u Q I rx ry h
  obtain ⟨hs, q⟩ := h
  cases x with
  | non =>
    cases rx
    cases y with
    | non => cases ry; exact PySem.EqNone.ne_none_none (fin_bl I q (by simp))
    | bl j => cases ry; exact PySem.EqNone.ne_none_bool (fin_bl I q (by simp))
    | int j => obtain ⟨t', rfl⟩ := ry; exact PySem.EqNone.ne_none_int (fin_bl I q (by simp))
    | str j => obtain ⟨t', rfl⟩ := ry; exact PySem.EqNone.ne_none_str (fin_bl I q (by simp))
    | _ => exact absurd (show false = true from hs) Bool.false_ne_true
  | bl i =>
    cases rx
    cases y with
    | non => cases ry; exact PySem.EqNone.ne_bool_none (fin_bl I q (by simp))
    | bl j => cases ry; exact ne_bool (fin_bl I q (congrArg not dec_bl))
    | str j => obtain ⟨t', rfl⟩ := ry; exact PySem.EqMixed.ne_bool_str (fin_bl I q (by simp))
    | _ => exact absurd (show false = true from hs) Bool.false_ne_true
  | int i =>
    obtain ⟨t, rfl⟩ := rx
    cases y with
    | non => cases ry; exact PySem.EqNone.ne_int_none (fin_bl I q (by simp))
    | int j => obtain ⟨t', rfl⟩ := ry; exact ne_int (fin_bl I q (congrArg not dec_int))
    | str j => obtain ⟨t', rfl⟩ := ry; exact PySem.EqMixed.ne_int_str (fin_bl I q (by simp))
    | _ => exact absurd (show false = true from hs) Bool.false_ne_true
  | str i =>
    obtain ⟨t, rfl⟩ := rx
    cases y with
    | non => cases ry; exact PySem.EqNone.ne_str_none (fin_bl I q (by simp))
    | bl j => cases ry; exact PySem.EqMixed.ne_str_bool (fin_bl I q (by simp))
    | int j => obtain ⟨t', rfl⟩ := ry; exact PySem.EqMixed.ne_str_int (fin_bl I q (by simp))
    | str j => obtain ⟨t', rfl⟩ := ry; exact ne_str (fin_bl I q (congrArg not dec_str))
    | _ => exact absurd (show false = true from hs) Bool.false_ne_true
  | byt i =>
    obtain ⟨t, rfl⟩ := rx
    cases y with
    | byt j => obtain ⟨t', rfl⟩ := ry; exact PySem.W.ne_bytes (fin_bl I q (congrArg not dec_byt))
    | _ => exact absurd (show false = true from hs) Bool.false_ne_true
  | _ => cases y <;> exact absurd (show false = true from hs) Bool.false_ne_true

theorem op_lt : OpR X (compareOp .Lt) (rI0 fun i j => .bl (decide (i < j))) := opB0 fun _ _ _ _ _ _ _ q => lt_int q
theorem op_le : OpR X (compareOp .LtE) (rI0 fun i j => .bl (decide (i ≤ j))) := opB0 fun _ _ _ _ _ _ _ q => le_int q
theorem op_gt : OpR X (compareOp .Gt) (rI0 fun i j => .bl (decide (j < i))) := opB0 fun _ _ _ _ _ _ _ q => gt_int q
theorem op_ge : OpR X (compareOp .GtE) (rI0 fun i j => .bl (decide (j ≤ i))) := opB0 fun _ _ _ _ _ _ _ q => ge_int q
theorem op_lt_str : OpR X (compareOp .Lt) (fun x y H Q => ∃ i j, x = .str i ∧ y = .str j ∧ Q (.bl (decide (i.cps.toList < j.cps.toList))) H) := by
  intro pins s σ H x y v u Q I rx ry h
  obtain ⟨i, j, rfl, rfl, q⟩ := h
  obtain ⟨t, rfl⟩ := rx
  obtain ⟨t', rfl⟩ := ry
  exact lt_str (fin_bl I q rfl)
/-- the one string within the other -/
theorem op_in_str : OpR X (compareOp .In) (fun x y H Q => ∃ i j, x = .str i ∧ y = .str j ∧ Q (.bl (!(Builtin.Str.occurrences j i 0 j.length 1).isEmpty)) H) := by
  intro pins s σ H x y v u Q I rx ry h
  obtain ⟨i, j, rfl, rfl, q⟩ := h
  obtain ⟨t, rfl⟩ := rx
  obtain ⟨t', rfl⟩ := ry
  exact in_str (fin_bl I q rfl)

/-- is, is not of two objects that are tracked lists or instances -/
def isObj : HO → Bool
  | .lst _ => true
  | .ins _ _ _ => true
  | _ => false
theorem nomark (b : Expr) {op : CmpOp} (h : op ≠ .In := by decide) (h2 : op ≠ .NotIn := by decide) : behindInMarks op b = false := by
  have e1 : (op == CmpOp.In) = false := by cases op <;> first | rfl | exact absurd rfl h
  have e2 : (op == CmpOp.NotIn) = false := by cases op <;> first | rfl | exact absurd rfl h2
  cases b <;> simp [behindInMarks, e1, e2]
/-- a comparison as a value; hm: nomark b, or (for in, not in) by with_unfolding_all rfl -/
theorem pe_cmpR {op : CmpOp} {r : R2} (ho : OpR X (compareOp op) r) (ha : PE X a ta) (hb : PE X b tb) (hm : behindInMarks op b = false) : PE X (.Compare a [op] [b] pos) (tOp r ta tb) := by
  intro pins s σ H Q I h
  exact wpAny_Compare1 (binT ha hb I h fun v u s2 x y H2 I2 rx ry q => ho pins s2 σ H2 x y v u Q I2 rx ry q) hm
/-- a reading of a value as a test -/
def tTest (t : TE) : TT := fun σ H Q => t σ H fun x H' => ∃ k, x = .bl k ∧ Q k H'
theorem pt_cmpR {op : CmpOp} {r : R2} (ho : OpR X (compareOp op) r) (ha : PE X a ta) (hb : PE X b tb) (hm : behindInMarks op b = false) : PT X (.Compare a [op] [b] pos) (tTest (tOp r ta tb)) := by
  intro pins s σ H Q I h
  refine wpAny_isTrue_Compare1 (thn (ha pins s σ H _ I h) fun v s1 ⟨x, H1, I1, r1, q1⟩ => thn (hb pins s1 σ H1 _ I1 q1) fun u s2 ⟨y, H2, I2, r2, q2⟩ =>
    thn (ho pins s2 σ H2 x y v u _ I2 r1 r2 q2) fun c s3 ⟨z, H3, I3, r3, k, e, q3⟩ => ?_) hm
  subst e
  cases r3
  exact wpAny_truthy_bool ⟨H3, I3, q3⟩
/-- a op1 b op2 c -/
def tChain (r r' : R2) (ta tb tc : TE) : TE := fun σ H Q => ta σ H fun x H1 => tb σ H1 fun y H2 => r x y H2 fun z H3 => ∃ k, z = .bl k ∧
  (if k = true then tc σ H3 fun w' H4 => r' y w' H4 Q else Q (.bl false) H3)
theorem pe_chain {op op' : CmpOp} {r r' : R2} (ho : OpR X (compareOp op) r) (ho' : OpR X (compareOp op') r') (ha : PE X a ta) (hb : PE X b tb) (hc : PE X c tc)
    (hm : lastMarks [op, op'] [b, c] = false := by with_unfolding_all rfl) : PE X (.Compare a [op, op'] [b, c] pos) (tChain r r' ta tb tc) := by
  intro pins s σ H Q I h
  refine Compare_chain (thn (ha pins s σ H _ I h) fun v s1 ⟨x, H1, I1, r1, q1⟩ => chain_link (thn (hb pins s1 σ H1 _ I1 q1) fun u s2 ⟨y, H2, I2, r2, q2⟩ =>
    thn (ho pins s2 σ H2 x y v u _ I2 r1 r2 q2) fun d s3 ⟨z, H3, I3, r3, k, e, q3⟩ => ?_)) hm
  subst e
  cases r3
  refine wpAny_truthy_bool ?_
  cases k with
  | false => exact ite_ff ⟨.bl false, H3, I3, rfl, q3⟩
  | true => exact ite_tt (chain_last (thn (hc pins s3 σ H3 _ I3 q3) fun w' s4 ⟨z', H4, I4, r4, q4⟩ => ho' pins s4 σ H4 y z' u w' Q I4 r2 r4 q4))
theorem pt_chain {op op' : CmpOp} {r r' : R2} (ho : OpR X (compareOp op) r) (ho' : OpR X (compareOp op') r') (ha : PE X a ta) (hb : PE X b tb) (hc : PE X c tc)
    (hm : lastMarks [op, op'] [b, c] = false := by with_unfolding_all rfl) : PT X (.Compare a [op, op'] [b, c] pos) (tTest (tChain r r' ta tb tc)) := by
  intro pins s σ H Q I h
  refine isTrue_chain (thn (ha pins s σ H _ I h) fun v s1 ⟨x, H1, I1, r1, q1⟩ => test_link (thn (hb pins s1 σ H1 _ I1 q1) fun u s2 ⟨y, H2, I2, r2, q2⟩ =>
    thn (ho pins s2 σ H2 x y v u _ I2 r1 r2 q2) fun d s3 ⟨z, H3, I3, r3, k, e, q3⟩ => ?_)) hm
  subst e
  cases r3
  refine wpAny_truthy_bool ?_
  cases k with
  | false =>
    obtain ⟨k', e', q'⟩ := q3
    cases e'
    exact ite_ff ⟨H3, I3, q'⟩
  | true =>
    refine ite_tt (test_last (thn (hc pins s3 σ H3 _ I3 q3) fun w' s4 ⟨z', H4, I4, r4, q4⟩ => thn (ho' pins s4 σ H4 y z' u w' _ I4 r2 r4 q4) fun d' s5 ⟨z2, H5, I5, r5, k2, e2, q5⟩ => ?_))
    subst e2
    cases r5
    exact wpAny_truthy_bool ⟨H5, I5, q5⟩

/-! ### truth -/
/-- a value's truth by the abstract heap -/
def TruV (K : PySem.W.Frag) (x : V) (H : Hp) (k : Bool) : Prop :=
  match x with
  | .non => k = false
  | .bl b => k = b
  | .int i => k = (i != 0)
  | .str y => y.length ≤ sizeLine ∧ k = ((y.length : Int) != 0)
  | .byt y => y.size ≤ sizeLine ∧ k = ((y.size : Int) != 0)
  | .ref p => (∃ xs, SqL K H p xs ∧ k = !xs.isEmpty) ∨ (∃ xs, SqT K H p xs ∧ k = !xs.isEmpty) ∨ ∃ kvs, H p = some (.dK kvs) ∧ k = !kvs.isEmpty
  | _ => False
theorem line63 : (sizeLine : Nat) < 2 ^ 63 := by rw [sizeLine_eq]; decide
/-! ### strs and bytes -/
theorem op_add_str : OpR X (binaryOp .Add) (fun x y H Q => ∃ i j, x = .str i ∧ y = .str j ∧ i.length + j.length ≤ sizeLine ∧ Q (.str (i ++ j)) H) := by
  intro pins s σ H x y v u Q I rx ry h
  obtain ⟨i, j, rfl, rfl, hz, q⟩ := h
  obtain ⟨t, rfl⟩ := rx
  obtain ⟨t', rfl⟩ := ry
  exact add_str (fun t' tk => ⟨.str (i ++ j), H, I.tok _, ⟨_, rfl⟩, q⟩) hz
def PlainIxT (b : Expr) : Prop := ∀ o i, subscripted b false o i = operate [o, i] (getItem o i)
/-! ### scalar builtins, by CallR -/
theorem vals1 {x : V} {us : List Value} (r : Vals [x] us) : ∃ u, us = [u] ∧ RelV x u := by
  cases r with
  | cons r1 r2 => cases r2; exact ⟨_, rfl, r1⟩
theorem vals2 {x y : V} {us : List Value} (r : Vals [x, y] us) : ∃ u w', us = [u, w'] ∧ RelV x u ∧ RelV y w' := by
  cases r with
  | cons r1 r2 =>
    cases r2 with
    | cons r3 r4 => cases r4; exact ⟨_, _, rfl, r1, r3⟩
theorem call_abs : CallR X (.builtin "abs") (fun xs H Q => ∃ i, xs = [.int i] ∧ Q (.int (if i < 0 then -i else i)) H) := by
  intro pins s σ H xs us Q I r h
  obtain ⟨i, rfl, q⟩ := h
  obtain ⟨u, rfl, t, rfl⟩ := vals1 r
  exact call_abs_int fun u tk => ⟨.int (if i < 0 then -i else i), H, I.tok _, ⟨_, rfl⟩, q⟩
theorem call_max2 (hc : X.calm = true) : CallR X (.builtin "max") (fun xs H Q => ∃ i j, xs = [.int i, .int j] ∧ Q (.int (if j > i then j else i)) H) := by
  intro pins s σ H xs us Q I r h
  obtain ⟨i, j, rfl, q⟩ := h
  obtain ⟨u, w', rfl, ⟨t, rfl⟩, ⟨t', rfl⟩⟩ := vals2 r
  refine max_two_ints (I.ok.hd hc) fun h' tk k => ⟨_, H, I.kept k, ?_, q⟩
  by_cases hj : j > i
  · rw [if_pos hj, if_pos hj]; exact ⟨_, rfl⟩
  · rw [if_neg hj, if_neg hj]; exact ⟨_, rfl⟩
theorem call_min2 (hc : X.calm = true) : CallR X (.builtin "min") (fun xs H Q => ∃ i j, xs = [.int i, .int j] ∧ Q (.int (if j < i then j else i)) H) := by
  intro pins s σ H xs us Q I r h
  obtain ⟨i, j, rfl, q⟩ := h
  obtain ⟨u, w', rfl, ⟨t, rfl⟩, ⟨t', rfl⟩⟩ := vals2 r
  refine min_two_ints (I.ok.hd hc) fun h' tk k => ⟨_, H, I.kept k, ?_, q⟩
  by_cases hj : j < i
  · rw [if_pos hj, if_pos hj]; exact ⟨_, rfl⟩
  · rw [if_neg hj, if_neg hj]; exact ⟨_, rfl⟩
/-- len of a str, a bytes, a list, a tuple -/
def LenV (K : PySem.W.Frag) (x : V) (H : Hp) (n : Nat) : Prop :=
  match x with
  | .str y => y.length ≤ sizeLine ∧ n = y.length
  | .byt y => y.size ≤ sizeLine ∧ n = y.size
  | .ref p => (∃ xs, SqL K H p xs ∧ n = xs.length) ∨ ∃ xs, SqT K H p xs ∧ n = xs.length
  | _ => False
end
end L2

namespace L2
open PySem PySem.Spec PyProof.Rows

/-! ### an instance, its attributes a map -/
structure ObjM (h : Heap) (x dx C : Addr) (mA : Str → Option Value) : Prop where
  obj : h.get? x = some (PySem.W.instObj C dx)
  ns : h.Ns1 dx mA
  ne : dx ≠ x

section
variable {prog : Program} {w : World} {A : Around} {E : Value → Shared → Prop} {s : Shared} {K : PySem.W.Frag} {x dx C f : Addr} {mA : Str → Option Value} {name : Str} {v : Value}

end

/-! ### the attributes as a list of pairs -/
def putF (f : Str) (v : V) : List (Str × V) → List (Str × V)
  | [] => [(f, v)]
  | (g, x) :: r => if g = f then (g, v) :: r else (g, x) :: putF f v r
section
variable {P : Program} {w : World} {H H' : Hp} {h h' : Heap} {a C dx : Addr} {fs fs' : List (Str × V)}
end

/-! ### what of the text a class must have -/
structure Cls (K : PySem.W.Frag) (C : Addr) : Prop where
  pg : PySem.W.plainGet K C Str.empty = true
  hd : PySem.W.hasDictIn K C = true
  po : PySem.W.plainOver K C = true
  sa : PySem.W.findIn K (.ref C) "__setattr__" = some (some (.builtin "object.__setattr__"))
/-- no class of it has the name -/
def NoAttr (K : PySem.W.Frag) (C : Addr) (f : Str) : Prop := PySem.W.findIn K (.ref C) f = some none
/-- a constant of the class -/
structure Con (K : PySem.W.Frag) (C : Addr) (f : Str) (v : V) (u : Value) : Prop where
  at_ : PySem.W.findIn K (.ref C) f = some (some u)
  rel : RelV v u
  get : PySem.W.specialIn K u "__get__" = some none
  cp : PySem.W.copiedNames.contains f = false
/-- a method: a plain def of the class or of one above it -/
structure Meth (K : PySem.W.Frag) (C : Addr) (m : Str) (f : Addr) : Prop where
  at_ : PySem.W.findIn K (.ref C) m = some (some (.ref f))
  fn : PySem.W.isFn K (.ref f) = true
  kp : PySem.W.keepIn K (.ref f) = true

section
variable {X : Cx} {pins : List (Addr × Obj)} {σ : St} {H : Hp} {s : Shared} {a C dx : Addr} {fs : List (Str × V)} {f : Str} {v : V} {A : Around} {E : Value → Shared → Prop}

end

/-! ### readings and rules -/
/-- e.f, an attribute of the instance -/
def tFld (K : PySem.W.Frag) (ta : TE) (f : Str) : TE := fun σ H Q => ta σ H fun x H1 => ∃ a C dx fs v, x = .ref a ∧ H1 a = some (.ins C dx fs) ∧ Cls K C ∧ NoAttr K C f ∧ fs.lookup f = some v ∧ Q v H1
/-- e.f, a constant of the class -/
def tCon (K : PySem.W.Frag) (ta : TE) (f : Str) : TE := fun σ H Q => ta σ H fun x H1 => ∃ a C dx fs v u, x = .ref a ∧ H1 a = some (.ins C dx fs) ∧ Cls K C ∧ Con K C f v u ∧ fs.lookup f = none ∧ Q v H1
/-- e.f = value -/
def sFld (K : PySem.W.Frag) (ta tv : TE) (f : Str) : TS := fun D σ H => tv σ H fun y H1 => ta σ H1 fun x H2 => ∃ a C dx fs, x = .ref a ∧ H2 a = some (.ins C dx fs) ∧ Cls K C ∧ NoAttr K C f ∧ fs.length < 1000 ∧
  D.nx σ (upd H2 a (.ins C dx (putF f y fs)))
/-- an augmented operator on two values -/
def InOp (X : Cx) (op : Operator) (rd : V → V → Hp → VK → Prop) : Prop :=
  ∀ (pins : List (Addr × Obj)) (s : Shared) (σ : St) (H : Hp) (x y : V) (u v : Value) (Q : VK), Inv X pins σ H s → RelV x u → RelV y v → rd x y H Q → wpAny (model X.prog X.w) X.A (inplaceOp op u v) (EP X pins σ Q) X.xe s
/-- e.f op= value -/
def sFldAug (K : PySem.W.Frag) (ta tv : TE) (rd : V → V → Hp → VK → Prop) (f : Str) : TS := fun D σ H => ta σ H fun x H1 => ∃ a C dx fs v, x = .ref a ∧ H1 a = some (.ins C dx fs) ∧ Cls K C ∧ NoAttr K C f ∧ fs.lookup f = some v ∧
  tv σ H1 fun y H2 => rd v y H2 fun z H3 => ∃ dx' fs', H3 a = some (.ins C dx' fs') ∧ fs'.length < 1000 ∧ D.nx σ (upd H3 a (.ins C dx' (putF f z fs')))

section
variable {X : Cx} {o e value : Expr} {f : Str} {pos pos' tpos : Pos} {ta tv : TE}
def rAdd : V → V → Hp → VK → Prop := fun x y H Q => ∃ i j, x = .int i ∧ y = .int j ∧ Q (.int (i + j)) H
def rSub : V → V → Hp → VK → Prop := fun x y H Q => ∃ i j, x = .int i ∧ y = .int j ∧ Q (.int (i - j)) H
end

/-! ### isinstance -/
section
variable {X : Cx} {pins : List (Addr × Obj)} {σ : St} {H : Hp} {s : Shared} {A : Around} {E : Value → Shared → Prop} {Q : Value → Shared → Prop} {c : Value} {b : Bool}
/-- the type of a value, as the fragment's deciders take it; for an instance its class -/
inductive TyOf (K : PySem.W.Frag) (H : Hp) : V → Value → Prop where
  | non : TyOf K H .non (.type "NoneType")
  | bl (x : Bool) : TyOf K H (.bl x) (.type "bool")
  | int (i : Int) : TyOf K H (.int i) (.type "int")
  | str (x : Str) : TyOf K H (.str x) (.type "str")
  | flt (x : UInt64) : TyOf K H (.flt x) (.type "float")
  | lst {a : Addr} {xs : List V} (e : H a = some (.lst xs)) : TyOf K H (.ref a) (.type "list")
  | frz {a : Addr} {o : Obj} {xs : List V} (e : H a = some (.frz o (.lst xs))) : TyOf K H (.ref a) (.type "list")
  | tup {a : Addr} {xs : List V} (e : H a = some (.tup xs)) : TyOf K H (.ref a) (.type "tuple")
  | dK {a : Addr} {kvs : List (Key × V)} (e : H a = some (.dK kvs)) : TyOf K H (.ref a) (.type "dict")
  | dT {a : Addr} {kvs : List (List Key × V)} (e : H a = some (.dT kvs)) : TyOf K H (.ref a) (.type "dict")
  | ins {a C dx : Addr} {fs : List (Str × V)} (e : H a = some (.ins C dx fs)) (cl : Cls K C) (ha : PySem.W.findIn K (.ref C) "__class__" = some (some (.builtin "object.__class__")))
      (hn : PySem.W.specialIn K (.builtin "object.__class__") "__get__" = some (some (.builtin "getset_descriptor.__get__"))) (htk : PySem.W.takesIn K (.builtin "object.__class__") = some true)
      (hm : PySem.W.mroIn K C (.type "object") = some true) : TyOf K H (.ref a) (.ref C)
end
end L2

namespace L2
open PySem PySem.Spec PyProof.Rows

/-! ### room -/
structure Room (k : Nat) (A : Around) : Prop where
  hd : A.handled = none
  dp : A.depth + 3 * k + 5 < recursionLimit
  un : A.units + 16 * k + 200 < cLine
theorem Room.mono {j k : Nat} {A : Around} (r : Room k A) (h : j ≤ k) : Room j A := ⟨r.hd, by have := r.dp; omega, by have := r.un; omega⟩
theorem Room.deeper {k : Nat} {A : Around} (r : Room (k + 1) A) (env : Env) : Room k (A.deeper env) :=
  ⟨r.hd, by have := r.dp; show A.depth + 1 + 3 * k + 5 < _; omega, by have := r.un; show A.units + 3 + 16 * k + 200 < _; omega⟩
theorem Room.depth {k : Nat} {A : Around} (r : Room k A) : A.depth < recursionLimit := by have := r.dp; omega
theorem Room.units {k : Nat} {A : Around} (r : Room k A) : A.units + 64 < cLine := by have := r.un; omega
/-! ### argument lists and displays -/
def tNil : TA := fun _ H Q => Q [] H
def tCons (ta : TE) (tr : TA) : TA := fun σ H Q => ta σ H fun x H1 => tr σ H1 fun xs H2 => Q (x :: xs) H2
section
variable {X : Cx} {e : Expr} {es : List Expr} {te : TE} {t : TA} {pos : Pos}
theorem pa_nil : PA X [] tNil := fun _ _ _ _ H Q I h => Calls.spliced_nil ⟨[], H, I, .nil, h⟩
theorem pa_cons (ha : PE X e te) (hr : PA X es t) (hs : starEach (e :: es) X.env = (false, eval e X.env) :: starEach es X.env := by rfl) : PA X (e :: es) (tCons te t) := by
  intro pos pins s σ H Q I h
  rw [hs]
  show wpAny _ _ (spliced ((false, eval e X.env) :: backTo pos (starEach es X.env))) _ _ s
  refine Calls.spliced_cons (thn (ha pins s σ H _ I h) fun u s1 ⟨x, H1, I1, r1, q1⟩ => ?_)
  exact thn (hr pos pins s1 σ H1 _ I1 q1) fun us s2 ⟨xs, H2, I2, r2, q2⟩ => ⟨x :: xs, H2, I2, .cons r1 r2, q2⟩

/-- a tuple, a list of written items -/
def tTup (t : TA) : TE := fun σ H Q => t σ H fun xs H1 => xs.length ≤ sizeLine ∧ ∀ p, H1 p = none → Q (.ref p) (upd H1 p (.tup xs))
def tLst (t : TA) : TE := fun σ H Q => t σ H fun xs H1 => xs.length ≤ sizeLine ∧ ∀ p, H1 p = none → Q (.ref p) (upd H1 p (.lst xs))
theorem pe_tup {x1} (h : PA X es t) : PE X (.Tuple es x1 pos) (tTup t) := by
  intro pins s σ H Q I hq
  refine wpAny_Tuple_spliced (thn (h pos pins s σ H _ I hq) fun us s1 ⟨xs, H1, I1, r, z, q⟩ => ⟨by rw [← r.length]; exact z, ?_⟩)
  have hf : H1 s1.heap.objs.size = none := I1.hok.fresh (Nat.le_refl _)
  refine ⟨.ref s1.heap.objs.size, upd H1 s1.heap.objs.size (.tup xs), I1.laid (t' := s1.toks) (fun b u e => Heap.get?_push_of_some _ e) (Nat.le_refl _) ?_, rfl, q _ hf⟩
  exact ⟨z, us, r, ⟨_, Heap.get?_push_size _ rfl, rfl, _, rfl⟩⟩
theorem pe_lst (h : PA X es t) : PE X (.List es pos) (tLst t) := by
  intro pins s σ H Q I hq
  refine wpAny_List_spliced (thn (h pos pins s σ H _ I hq) fun us s1 ⟨xs, H1, I1, r, z, q⟩ => ⟨by rw [← r.length]; exact z, ?_⟩)
  have hf : H1 s1.heap.objs.size = none := I1.hok.fresh (Nat.le_refl _)
  refine ⟨.ref s1.heap.objs.size, upd H1 s1.heap.objs.size (.lst xs), I1.laid (t' := s1.toks) (fun b u e => Heap.get?_push_of_some _ e) (Nat.le_refl _) ?_, rfl, q _ hf⟩
  exact ⟨z, us, 0, r, Heap.get?_push_size _ rfl⟩
end

/-! ### what a def promises -/
/-- a def's promise: the bound arguments in the parameters' order, the heap, the wanted end, the wanted exception -/
abbrev Sp := List V → Hp → VK → XK → Prop
/-- how an exception lies behind a call (file 08 gives it): the callers' frames, abstract heap and state ahead of the call, the wish, the exception, the state -/
abbrev CXT := List Env → Hp → Shared → XK → Value → Shared → Prop

/-- the state at a call -/
structure Env0 (P : Program) (w : World) (K : PySem.W.Frag) (mg : Str → Option Value) (base : Heap) (A : Around) (outer : List Env) (s : Shared) (H : Hp) : Prop where
  frames : A.frames = some outer
  mod : Mod K mg base
  bs : ∀ b o, base.get? b = some o → s.heap.get? b = some o ∧ H b = none
  bsz : base.objs.size ≤ s.heap.objs.size
  funs : s.heap.FunFrames base outer
  frf : ∀ b ∈ frs outer, H b = none
  hok : HOk P w H s.heap
  bare : AllBare s.gens
/-- a call's end -/
def CE (outer : List Env) (P : Program) (w : World) (H : Hp) (s : Shared) (Q : VK) (u : Value) (s' : Shared) : Prop :=
  ∃ v H', s'.os = s.os ∧ AllBare s'.gens ∧ Un (frs outer) [] H H' s.heap s'.heap ∧ HOk P w H' s'.heap ∧ RelV v u ∧ Q v H'
def CR (CX : CXT) (outer : List Env) (P : Program) (w : World) (H : Hp) (s : Shared) (Q : VK) (E : XK) (r : Result) (s' : Shared) : Prop :=
  match r with
  | .ok (.ret u) => CE outer P w H s Q u s'
  | .ok _ => False
  | .error e => CX outer H s E e s'
structure FnOk (P : Program) (w : World) (K : PySem.W.Frag) (mg : Str → Option Value) (base : Heap) (CX : CXT) (k : Nat) (f : Addr) (fd : FuncData) (ps : List Str) (sp : Sp) : Prop where
  len : ∀ vs H Q E, sp vs H Q E → vs.length = ps.length
  run : ∀ (A : Around) (outer : List Env) (s : Shared) (H : Hp) (args : Args) (us : List Value) (vs : List V) (Q : VK) (E : XK), Room k A → Env0 P w K mg base A outer s H → BindsTo s fd args (ps.zip us) → Vals vs us → sp vs H Q E →
    codeAny (model P w) A (.call (.ref f) args) (CR CX outer P w H s Q E) s
theorem FnOk.mono {P : Program} {w : World} {K : PySem.W.Frag} {mg : Str → Option Value} {base : Heap} {CX : CXT} {j k : Nat} {f : Addr} {fd : FuncData} {ps : List Str} {sp : Sp} (F : FnOk P w K mg base CX j f fd ps sp) (h : j ≤ k) :
    FnOk P w K mg base CX k f fd ps sp := ⟨F.len, fun A outer s H args us vs Q E hr => F.run A outer s H args us vs Q E (hr.mono h)⟩
section
variable {X : Cx} {pins : List (Addr × Obj)} {σ : St} {H : Hp} {s s' : Shared}
/-- from a body: what a callee wants -/
theorem Inv.env0 (I : Inv X pins σ H s) : Env0 X.prog X.w X.K X.mg X.base X.A X.stack s H :=
  ⟨I.ok.frames, I.ok.mod, I.bs, Nat.le_trans I.ok.bsz I.sz, I.stack, I.stkFree, I.hok, I.bare⟩
/-- behind a call -/
theorem Inv.after {Q : VK} {u : Value} (I : Inv X pins σ H s) (h : CE X.stack X.prog X.w H s Q u s') : EP X pins σ Q u s' := by
  obtain ⟨v, H', os, bare, un, hok, r, q⟩ := h
  obtain ⟨hh, g, d, t, os'⟩ := s'
  obtain rfl : os' = s.os := os
  exact ⟨v, H', I.call (h' := hh) (g' := g) (d' := d) (t' := t) (ch := []) un hok bare (fun b z => absurd z (by simp)), r, q⟩
end

/-! ### calls -/
/-- f(..): the written arguments, then the defaults dvs; E: what is wanted of an exception -/
def tCall (sp : Sp) (dvs : List V) (E : XK) (t : TA) : TE := fun σ H Q => t σ H fun vs H1 => sp (vs ++ dvs) H1 Q E
/-- o.m(..) of an instance of the class at C -/
def tMeth (C : Addr) (m : Str) (sp : Sp) (dvs : List V) (E : XK) (ta : TE) (t : TA) : TE := fun σ H Q => ta σ H fun x H1 => ∃ a dx fs, x = .ref a ∧ H1 a = some (.ins C dx fs) ∧ fs.lookup m = none ∧
  t σ H1 fun vs H2 => sp (x :: (vs ++ dvs)) H2 Q E
/-- C(..): a new instance and its dict, then __init__ -/
def tMake (C : Addr) (sp : Sp) (dvs : List V) (E : XK) (t : TA) : TE := fun σ H Q => t σ H fun vs H1 => ∀ x dx, H1 x = none → H1 dx = none → dx ≠ x →
  sp (.ref x :: (vs ++ dvs)) (upd (upd H1 dx (.own x)) x (.ins C dx [])) (fun v H2 => v = .non ∧ Q (.ref x) H2) E

/-- how the parameters are bound: us the positional arguments, kw the keywords' values by name, ds the defaults that fill up -/
def Binds (K : PySem.W.Frag) (fd : FuncData) (ps : List Str) (ds : List Value) : Prop :=
  ∀ (s : Shared) (us : List Value), K.In s.heap → (us ++ ds).length = ps.length → BindsTo s fd ⟨us, []⟩ (ps.zip (us ++ ds))
/-- every parameter is given -/
theorem Binds.all {K : PySem.W.Frag} {fd : FuncData} {ps : List Str} (h : ∀ us : List Value, us.length = ps.length → bindArgs fd ⟨us, []⟩ = pure (ps.zip us)) : Binds K fd ps [] := fun s us _ hl => by
  rw [List.append_nil] at hl ⊢
  exact .of_eq (h us hl)

/-- an exception of a callee reaches what this body wants of exceptions -/
def Passes (CX : CXT) (X : Cx) (E : XK) : Prop := ∀ (pins : List (Addr × Obj)) (σ : St) (H : Hp) (s : Shared) (e : Value) (s' : Shared), Inv X pins σ H s → CX X.stack H s E e s' → X.xe e s'

section
variable {X : Cx} {CX : CXT} {k : Nat} {f C : Addr} {fd : FuncData} {ps : List Str} {sp : Sp} {dvs : List V} {ds : List Value} {E : XK} {x m : Str} {p pos apos : Pos} {e o : Expr} {es : List Expr} {ta : TE} {t : TA}

/-- the callee runs -/
theorem run_fn {pins : List (Addr × Obj)} {σ : St} {H : Hp} {s : Shared} {Q : VK} {us : List Value} {vs : List V} (F : FnOk X.prog X.w X.K X.mg X.base CX k f fd ps sp) (hr : Room k X.A) (hb : Binds X.K fd ps ds) (hd : Vals dvs ds) (hx : Passes CX X E)
    (I : Inv X pins σ H s) (r : Vals vs us) (h : sp (vs ++ dvs) H Q E) : wpAny (model X.prog X.w) X.A (call (.ref f) us) (EP X pins σ Q) X.xe s := by
  have r2 : Vals (vs ++ dvs) (us ++ ds) := r.append hd
  have hl : (us ++ ds).length = ps.length := by rw [← r2.length]; exact F.len _ _ _ _ h
  refine wpAny_call (codeAny_mono (F.run X.A X.stack s H ⟨us, []⟩ (us ++ ds) (vs ++ dvs) Q E hr I.env0 (hb s us I.kIn hl) r2 h) fun r s' hq => ?_)
  cases r with
  | error e => exact hx pins σ H s e s' I hq
  | ok fl =>
    cases fl with
    | ret u => exact I.after hq
    | next => exact False.elim hq
    | brk => exact False.elim hq
    | cont => exact False.elim hq

theorem pe_call (F : FnOk X.prog X.w X.K X.mg X.base CX k f fd ps sp) (hr : Room k X.A) (hg : Gl X x) (hm : X.mg x = some (.ref f)) (hk : PySem.W.keepIn X.K (.ref f) = true) (hb : Binds X.K fd ps ds) (hd : Vals dvs ds) (hx : Passes CX X E)
    (ha : PA X (e :: es) t) (hdb : (x == ("__debug__" : Str)) = false := by decide) (he : starEach (e :: es) X.env = (false, eval e X.env) :: starEach es X.env := by rfl) (hpl : (backTo pos (starEach es X.env)).any (·.1) = false := by rfl) :
    PE X (.Call (.Name x p) (e :: es) [] pos) (tCall sp dvs E t) := by
  intro pins s σ H Q I h
  refine wpAny_Call_Name_kw (ld_glob I hg hm ?_ hdb)
  refine PySem.W.callWith_K (h₀ := X.base) I.ok.mod.kin hk (thn (ha pos pins s σ H _ I h) fun us s1 ⟨vs, H1, I1, r, q⟩ => ⟨I1.kIn, ?_⟩) he hpl
  exact run_fn F hr hb hd hx I1 r q
/-- what a class must have to be made -/
structure Mk (K : PySem.W.Frag) (C f : Addr) : Prop where
  makes : PySem.W.makesIn K C = true
  init : PySem.W.findIn K (.ref C) "__init__" = some (some (.ref f))
  fn : PySem.W.isFn K (.ref f) = true
  kp : PySem.W.keepIn K (.ref C) = true

end

/-! ### keywords -/
/-- the values of the keywords, from the left -/
def PK (X : Cx) (kws : List Keyword) (t : TA) : Prop :=
  ∀ (pos : Pos) (pins : List (Addr × Obj)) (s : Shared) (σ : St) (H : Hp) (Q : List V → Hp → Prop), Inv X pins σ H s → t σ H Q → wpAny (model X.prog X.w) X.A (evalAll ((backToKw pos (keywordEach kws X.env)).map (·.2))) (AP X pins σ Q) X.xe s
section
variable {X : Cx} {CX : CXT} {k : Nat} {f C : Addr} {fd : FuncData} {ps ks : List Str} {sp : Sp} {E : XK} {x m : Str} {p pos apos kpos : Pos} {e o : Expr} {es : List Expr} {kws : List Keyword} {te ta : TE} {t tk : TA} {nm : Option Str}
/-- how a call with keywords binds: g puts the positional values us and the keywords' values ws (names ks) in the parameters' order, defaults among them -/
structure KBinds (K : PySem.W.Frag) (fd : FuncData) (ps ks : List Str) (g : List Value → List Value → List Value) (gV : List V → List V → List V) : Prop where
  to : ∀ (s : Shared) (us ws : List Value), K.In s.heap → (g us ws).length = ps.length → BindsTo s fd ⟨us, ks.zip ws⟩ (ps.zip (g us ws))
  rel : ∀ {vs : List V} {us : List Value} {zs : List V} {ws : List Value}, Vals vs us → Vals zs ws → Vals (gV vs zs) (g us ws)
def tCallK (sp : Sp) (gV : List V → List V → List V) (E : XK) (t tk : TA) : TE := fun σ H Q => t σ H fun vs H1 => tk σ H1 fun zs H2 => sp (gV vs zs) H2 Q E
variable {g : List Value → List Value → List Value} {gV : List V → List V → List V}
end

/-! ### a def's body keeps its promise -/
/-- names: the parameters first -/
structure FnScope (N P : List Str) (sc : Scope) : Prop where
  kind : sc.kind = .function
  co : sc.isCoroutine = false
  gen : sc.isGenerator = false
  nd : N.Nodup
  pre : N.take P.length = P
  par : ∀ x ∈ P, sc.names.lookup x = some .local ∨ sc.names.lookup x = some .cell
  nofree : ∀ y ∈ sc.names, y.2 ≠ .free

theorem bindL_out {kindOf : Str → Option NameKind} {x : Str} : ∀ {binds : List (Str × Value)} {m : Str → Option Value}, (∀ v, (x, v) ∉ binds) → bindL kindOf binds m x = m x
  | [], _, _ => rfl
  | (n, v) :: r, m, h => by
    unfold bindL
    rw [bindL_out fun w hw => h w (List.mem_cons_of_mem _ hw)]
    split
    · have : x ≠ n := by rintro rfl; exact h v List.mem_cons_self
      simp [this]
    · rfl
theorem bindC_out {kindOf : Str → Option NameKind} {x : Str} : ∀ {binds : List (Str × Value)} {m : Str → Option Value}, (∀ v, (x, v) ∉ binds) → bindC kindOf binds m x = m x
  | [], _, _ => rfl
  | (n, v) :: r, m, h => by
    unfold bindC
    rw [bindC_out fun w hw => h w (List.mem_cons_of_mem _ hw)]
    split
    · rfl
    · have : x ≠ n := by rintro rfl; exact h v List.mem_cons_self
      simp [this]
theorem bindL_get {kindOf : Str → Option NameKind} {x : Str} {v : Value} : ∀ {P : List Str} {vs : List Value} {i : Nat} {m : Str → Option Value}, P.Nodup → P[i]? = some x → vs[i]? = some v → kindOf x = some .local →
    bindL kindOf (P.zip vs) m x = some v
  | [], _, _, _, _, h, _, _ => by simp at h
  | _ :: _, [], _, _, _, _, h, _ => by simp at h
  | p :: P, w :: vs, 0, m, nd, h1, h2, hk => by
    simp at h1 h2; subst h1; subst h2
    show bindL kindOf ((p, w) :: P.zip vs) m p = _
    unfold bindL
    rw [bindL_out fun v hv => (List.nodup_cons.mp nd).1 (List.of_mem_zip hv).1, if_pos hk]
    simp
  | p :: P, w :: vs, i + 1, m, nd, h1, h2, hk => by
    show bindL kindOf ((p, w) :: P.zip vs) m x = _
    unfold bindL
    exact bindL_get (i := i) (List.nodup_cons.mp nd).2 (by simpa using h1) (by simpa using h2) hk
theorem bindC_get {kindOf : Str → Option NameKind} {x : Str} {v : Value} : ∀ {P : List Str} {vs : List Value} {i : Nat} {m : Str → Option Value}, P.Nodup → P[i]? = some x → vs[i]? = some v → kindOf x ≠ some .local →
    bindC kindOf (P.zip vs) m x = some v
  | [], _, _, _, _, h, _, _ => by simp at h
  | _ :: _, [], _, _, _, _, h, _ => by simp at h
  | p :: P, w :: vs, 0, m, nd, h1, h2, hk => by
    simp at h1 h2; subst h1; subst h2
    show bindC kindOf ((p, w) :: P.zip vs) m p = _
    unfold bindC
    rw [bindC_out fun v hv => (List.nodup_cons.mp nd).1 (List.of_mem_zip hv).1, if_neg hk]
    simp
  | p :: P, w :: vs, i + 1, m, nd, h1, h2, hk => by
    show bindC kindOf ((p, w) :: P.zip vs) m x = _
    unfold bindC
    exact bindC_get (i := i) (List.nodup_cons.mp nd).2 (by simpa using h1) (by simpa using h2) hk

/-- the names' values at the entry -/
def start (N : List Str) (vs : List V) : St := vs.map some ++ List.replicate (N.length - vs.length) none

/-- the context of a def's body, at its entry; an exception leaves the frame, then lies as CX says -/
def cxOf (CX : CXT) (P : Program) (w : World) (K : PySem.W.Frag) (mg : Str → Option Value) (base : Heap) (N : List Str) (qual : Str) (scope : Scope) (f : Addr) (cd : Value) (A : Around) (outer : List Env) (s : Shared) (H : Hp) (E : XK) : Cx where
  prog := P
  w := w
  K := K
  mg := mg
  base := base
  A := A.deeper (envOfC qual scope s.heap.objs.size f cd)
  N := N
  s₀ := s
  H₀ := H
  env := envOfC qual scope s.heap.objs.size f cd
  outer := outer
  stack := envOfC qual scope s.heap.objs.size f cd :: outer
  ex := []
  calm := true
  fn := fun _ => true
  pn := []
  xe := fun e s' => wpAny (model P w) (A.deeper (envOfC qual scope s.heap.objs.size f cd)) (leaving (envOfC qual scope s.heap.objs.size f cd) e) (fun _ s'' => CX outer H s E e s'') (fun e' s'' => CX outer H s E e' s'') s'

theorem cell_has {sc : Scope} {n : Nat} {x : Str} (h : sc.names.lookup x = some .cell) : ∃ c, (cellsFrom n sc.names []).lookup x = some c := by
  have q := PySem.W.cellsFrom_some sc.names n [] (.inl h)
  exact Option.isSome_iff_exists.mp q

theorem inv_start {CX : CXT} {P : Program} {w : World} {K : PySem.W.Frag} {mg : Str → Option Value} {base : Heap} {N ps : List Str} {qual : Str} {scope : Scope} {f : Addr} {cd : Value} {A : Around} {outer : List Env} {s s1 : Shared} {H : Hp} {E : XK} {us : List Value} {vs : List V}
    (S : FnScope N ps scope) (hd : A.handled = none) (e0 : Env0 P w K mg base A outer s H) (hl : vs.length = ps.length) (r : Vals vs us)
    (x : InCallC s s.heap.objs.size (bindL (envOfC qual scope s.heap.objs.size f cd).kindOf (ps.zip us) fun _ => none) (cellsFrom (s.heap.objs.size + 1) scope.names []) (bindC (envOfC qual scope s.heap.objs.size f cd).kindOf (ps.zip us) fun _ => none) s1) :
    Inv (cxOf CX P w K mg base N qual scope f cd A outer s H E) [] (start N vs) H s1 := by
  have hpl : ps.length ≤ N.length := by have := congrArg List.length S.pre; rw [List.length_take] at this; omega
  obtain ⟨h1, tk, rfl, hk⟩ := x.done
  have noA : ∀ b : Addr, b ∉ (cxOf CX P w K mg base N qual scope f cd A outer s H E).ex := fun b z => absurd (show b ∈ ([] : List Addr) from z) (by simp)
  refine ⟨⟨e0.mod, S.kind, rfl, rfl, Nat.le_refl _, fun y z c h1 h2 => ?_, fun y hy => ?_, fun y c _ h => ?_, fun _ => hd, Around.frames_deeper e0.frames, .inr ⟨rfl, rfl⟩, fun b z => absurd z (noA b), e0.bs, e0.bsz, fun b _ _ => noA b, fun b z => absurd z (noA b), e0.funs, e0.frf⟩,
    rfl, e0.bare, Un.kept hk, ⟨_, x.toInCall.ns, fun i y v h1 h2 h3 => ?_⟩, fun y c h => ⟨_, x.cell y c h⟩, e0.hok.fresh (Nat.le_refl _), fun y c h => ?_, fun p hp => absurd (show p ∈ ([] : List (Addr × Obj)) from hp) (by simp), e0.hok.kept hk, ?_⟩
  · exact name_of_addr x.apart (PySem.mem_of_lookup h1) (PySem.mem_of_lookup h2)
  · have hy : scope.names.lookup y = some .cell ∨ scope.names.lookup y = some .free := hy
    rcases hy with hy | hy
    · exact cell_has hy
    · exact absurd rfl (S.nofree _ (PySem.mem_of_lookup hy))
  · exact Nat.le_of_lt (x.above y c (PySem.mem_of_lookup h))
  · have hi : i < vs.length := by
      unfold start at h2
      by_cases hi : i < vs.length
      · exact hi
      · rw [List.getElem?_append_right (by simpa using hi)] at h2
        rw [List.getElem?_replicate] at h2
        split at h2 <;> cases h2
    have ha : vs[i]? = some v := by
      unfold start at h2
      rw [List.getElem?_append_left (by simpa using hi), List.getElem?_map] at h2
      cases e : vs[i]? with
      | none => rw [e] at h2; cases h2
      | some a => rw [e] at h2; cases h2; rfl
    obtain ⟨u, hu, rv⟩ := r.get ha
    have hp : ps[i]? = some y := by
      rw [← S.pre, List.getElem?_take_of_lt (by omega)]; exact h1
    have ndP : ps.Nodup := by rw [← S.pre]; exact S.nd.sublist (List.take_sublist _ _)
    refine ⟨u, rv, ?_⟩
    rcases S.par y (List.mem_of_getElem? hp) with k | k
    · exact .inl ⟨k, bindL_get ndP hp hu k⟩
    · obtain ⟨c, e⟩ := cell_has (n := s.heap.objs.size + 1) k
      refine .inr ⟨.inl k, c, e, ?_⟩
      have q := x.cell y c e
      rw [bindC_get ndP hp hu (by show scope.names.lookup y ≠ _; rw [k]; decide)] at q
      exact q
  · exact e0.hok.fresh (Nat.le_of_lt (x.above y c (PySem.mem_of_lookup h)))
  · unfold start
    show _ = N.length
    rw [List.length_append, List.length_map, List.length_replicate]
    omega

/-- THE RULE: a def (or a method) of the text, by its body. The body's reading t is chosen for each entry; it is run at the parameters' values -/
theorem fn_of {CX : CXT} {P : Program} {w : World} {K : PySem.W.Frag} {mg : Str → Option Value} {base : Heap} {k : Nat} {f : Addr} {name qual : Str} {params : Arguments} {body : List Stmt} {scope : Scope} {dV kV doc pm cdv ct oc : Value} {an od : Option Addr}
    {osl : Array (Option Value)} {N ps : List Str} {sp : Sp} (lk : K.lookup f = some ⟨oc, od, .func (PySem.W.fnOf name qual params body scope dV kV doc pm an cdv ct), osl⟩) (hcd : PySem.W.codeIn K cdv qual = true) (S : FnScope N ps scope)
    (len : ∀ vs H Q E, sp vs H Q E → vs.length = ps.length)
    (hbody : ∀ (A : Around) (outer : List Env) (s : Shared) (H : Hp) (vs : List V) (Q : VK) (E : XK), Room k (A.deeper (envOfC qual scope s.heap.objs.size f cdv)) → sp vs H Q E →
      ∃ t, PSs (cxOf CX P w K mg base N qual scope f cdv A outer s H E) body t ∧ t { nx := fun _ H' => Q .non H', rt := Q } (start N vs) H) :
    FnOk P w K mg base CX (k + 1) f (PySem.W.fnOf name qual params body scope dV kV doc pm an cdv ct) ps sp := by
  refine ⟨len, fun A outer s H args us vs Q E hr e0 hb r hsp => ?_⟩
  have hl := len _ _ _ _ hsp
  have KX : K.In s.heap := e0.mod.kin.keeps fun b o e => (e0.bs b o e).1
  have lim : s.heap.NoLimit := e0.mod.nolimit.keeps fun b o e => (e0.bs b o e).1
  have hkind : ∀ y ∈ ps.zip us, scope.names.lookup y.1 = some .local ∨ (scope.names.lookup y.1 = some .cell ∧ ((cellsFrom (s.heap.objs.size + 1) scope.names []).lookup y.1).isSome = true) := fun ⟨n, v⟩ hy => by
    rcases S.par n (List.of_mem_zip hy).1 with q | q
    · exact .inl q
    · exact .inr ⟨q, PySem.W.cellsFrom_some _ _ _ (.inl q)⟩
  refine codeAny_call_function hr.depth (KX _ _ lk) rfl S.co S.gen rfl (PySem.W.codeRec_of KX hcd) (hb _ _ _ _ ?_)
  refine wpAny_newFunctionEnv_cells S.kind hkind fun env he s1 x => ?_
  subst he
  refine ⟨lim.keeps x.toInCall.keep, codeAny_func ?_⟩
  obtain ⟨t, ht, hq⟩ := hbody A outer s H vs Q E (hr.deeper _) hsp
  have I : Inv (cxOf CX P w K mg base N qual scope f cdv A outer s H E) [] (start N vs) H s1 := inv_start S hr.hd e0 hl r x
  refine wpAny_mono (ht [] s1 (start N vs) H _ I hq) (fun fl s' hs => ?_) fun e s' hs => hs
  have fin : ∀ {σ' : St} {H' : Hp} {v : V} {u : Value}, Inv (cxOf CX P w K mg base N qual scope f cdv A outer s H E) [] σ' H' s' → RelV v u → Q v H' → CE outer P w H s Q u s' :=
    fun {σ' H' v u} J rv q => ⟨v, H', J.os, J.bare, J.base, J.hok, rv, q⟩
  cases fl with
  | ret u =>
    obtain ⟨v, σ', H', J, rv, q⟩ := hs
    exact fin J rv q
  | next =>
    obtain ⟨σ', H', J, q⟩ := hs
    exact fin (v := V.non) (u := Value.none) J rfl q
  | brk =>
    obtain ⟨_, _, _, q⟩ := hs
    exact False.elim q
  | cont =>
    obtain ⟨_, _, _, q⟩ := hs
    exact False.elim q
end L2

namespace L2
open PySem PySem.Spec PyProof.Rows
section
variable {X : Cx} {x : Str} {p pos : Pos} {e : Expr} {es : List Expr} {t : TA} {id T : String} {r : List V → Hp → VK → Prop}

def tCB (r : List V → Hp → VK → Prop) (t : TA) : TE := fun σ H Q => t σ H fun vs H1 => r vs H1 Q
/-- f(e, ..), f a built-in function -/
theorem pe_callB (hc : CallR X (.builtin id) r) (hg : Gl X x) (hm : X.mg x = none) (hv : bootBuiltins x = some (.builtin id)) (ha : PA X (e :: es) t) (hn : x ≠ "__name__" := by decide) (hdb : (x == ("__debug__" : Str)) = false := by decide)
    (he : starEach (e :: es) X.env = (false, eval e X.env) :: starEach es X.env := by rfl) (hpl : (backTo pos (starEach es X.env)).any (·.1) = false := by rfl) : PE X (.Call (.Name x p) (e :: es) [] pos) (tCB r t) := by
  intro pins s σ H Q I h
  refine wpAny_Call_Name_kw (ld_blt I hg hm hv ?_ hn hdb)
  exact PyProof.Rows.callWith_builtin1 (thn (ha pos pins s σ H _ I h) fun us s1 ⟨vs, H1, I1, r1, q1⟩ => hc pins s1 σ H1 vs us Q I1 r1 q1) he hpl
/-- T(e, ..), T a built-in type -/
theorem pe_callTy (hc : CallR X (.type T) r) (hg : Gl X x) (hm : X.mg x = none) (hv : bootBuiltins x = some (.type T)) (ha : PA X (e :: es) t) (hn : x ≠ "__name__" := by decide) (hdb : (x == ("__debug__" : Str)) = false := by decide)
    (he : starEach (e :: es) X.env = (false, eval e X.env) :: starEach es X.env := by rfl) (hpl : (backTo pos (starEach es X.env)).any (·.1) = false := by rfl) : PE X (.Call (.Name x p) (e :: es) [] pos) (tCB r t) := by
  intro pins s σ H Q I h
  refine wpAny_Call_Name_kw (ld_blt I hg hm hv ?_ hn hdb)
  exact PyProof.Rows.callWith_type1 (thn (ha pos pins s σ H _ I h) fun us s1 ⟨vs, H1, I1, r1, q1⟩ => hc pins s1 σ H1 vs us Q I1 r1 q1) he hpl
end
end L2

namespace HT
open PySem PyProof.Rows

/-- t < u of tuples of ints -/
def lexLt : List Int → List Int → Bool
  | [], [] => false
  | [], _ :: _ => true
  | _ :: _, [] => false
  | x :: xs, y :: ys => if x = y then lexLt xs ys else decide (x < y)
section
open PySem.SeqAt
open PySem.AutoSeq1 (wpAny_loadPart')
open PySem.MeetsSeq PySem.MeetsSeq2 PySem.MeetsSeq3

end

section
variable {prog : Program} {w : World} {A : Around} {E : Value → Shared → Prop} {s : Shared}

/-- t + u, t not empty -/
theorem cat_tup {t b : Addr} {vs ws : List Value} {Q : Value → Shared → Prop} (ht : IsTup s.heap t vs.toArray) (hb : IsTup s.heap b ws.toArray) (hv : vs ≠ [])
    (h1 : ws = [] → Q (.ref t) s) (h2 : ws ≠ [] → Q (.ref s.heap.objs.size) { s with heap := s.heap.push { cls := .type "tuple", data := .seq (vs ++ ws).toArray } })
    (hsz : vs.length + ws.length ≤ sizeLine) : wpAny (model prog w) A (binaryOp .Add (.ref t) (.ref b)) Q E s := by
  obtain ⟨⟨cls, dd, data, sl⟩, ho, hc, n, hd⟩ := id ht
  obtain ⟨⟨cls2, dd2, data2, sl2⟩, ho2, hc2, n2, hd2⟩ := id hb
  simp only at hc hd hc2 hd2
  subst hc hd hc2 hd2
  have e : vs.toArray ++ ws.toArray = (vs ++ ws).toArray := by simp
  by_cases hw : ws = []
  · exact concat_meets ⟨_, ho, rfl⟩ ⟨_, ho2, rfl⟩ noFill_tuple_add seq_tuple_add PySem.F.slot_tuple_add PySem.F.entry_tuple_add (PySem.F.args_tuple_add_2 _ _)
      (tuple_addW1 t b vs.toArray ws.toArray n n2 dd dd2 sl sl2 (by simpa using hv) (by simp [hw])) ⟨ho, ho2, h1 hw⟩
  · refine concat_meets ⟨_, ho, rfl⟩ ⟨_, ho2, rfl⟩ noFill_tuple_add seq_tuple_add PySem.F.slot_tuple_add PySem.F.entry_tuple_add (PySem.F.args_tuple_add_2 _ _)
      (tuple_addW2 t b vs.toArray ws.toArray n n2 dd dd2 sl sl2 (by simpa using hv) (by simpa using hw) (by rw [List.size_toArray, List.size_toArray]; exact hsz)) ⟨ho, ho2, ?_⟩
    rw [e]
    exact h2 hw

/-! ### t[a:b], not the whole -/
/-- a slice's bound as a place among n (d where it is left out) -/
def sIx (n d : Nat) : Option Int → Nat
  | none => d
  | some v => if v < 0 then (v + (n : Int)).toNat else min v.toNat n
theorem sIx_le (n d : Nat) (hd : d ≤ n) (o : Option Int) : sIx n d o ≤ n := by
  cases o with
  | none => exact hd
  | some v =>
    show (if v < 0 then (v + (n : Int)).toNat else min v.toNat n) ≤ n
    by_cases hv : v < 0
    · rw [if_pos hv]; omega
    · rw [if_neg hv]; exact Nat.min_le_right _ _
theorem clip_eq (v : Int) (n d : Nat) : (if v < 0 then max (v + (n : Int)) 0 else min v (n : Int)) = ((sIx n d (some v) : Nat) : Int) := by
  show (if v < 0 then max (v + (n : Int)) 0 else min v (n : Int)) = (((if v < 0 then (v + (n : Int)).toNat else min v.toNat n) : Nat) : Int)
  by_cases hv : v < 0
  · simp only [if_pos hv]; omega
  · simp only [if_neg hv]; omega
theorem adjust_gen (lo hi : Option Int) (n : Nat) : Builtin.Slice.sliceAdjust lo hi 1 (n : Int) = (((sIx n 0 lo : Nat) : Int), ((sIx n n hi : Nat) : Int)) := by
  have h1 : ¬ ((1 : Int) < 0) := by omega
  unfold Builtin.Slice.sliceAdjust
  simp only [h1, if_false]
  refine Prod.ext ?_ ?_
  · cases lo with
    | none => rfl
    | some v => exact clip_eq v n 0
  · cases hi with
    | none => rfl
    | some v => exact clip_eq v n n
theorem places_gen (i j : Nat) : Builtin.Slice.slicePlaces (i : Int) (j : Int) 1 = j - i := by
  unfold Builtin.Slice.slicePlaces
  have h1 : (1 : Int) > 0 := by omega
  simp only [h1, if_true, Int.ediv_one]
  split <;> omega
theorem slicePart_ {v : Value} {o : Option Int} {Q : Option Int → Shared → Prop} (p : IsPart v o) (h : Q o s) : wpAny (model prog w) A (Builtin.Slice.slicePartIndex v) Q E s := by
  cases p with
  | none => exact slicePart_none h
  | int i t => exact slicePart_int h
theorem sliceApplied_gen {sl : Addr} {vl vu : Value} {lo hi : Option Int} {n : Nat} {Q : Int × Int × Nat → Shared → Prop} (hs : s.heap.IsSliceOf sl vl vu .none) (pl : IsPart vl lo) (pu : IsPart vu hi)
    (h : Q (((sIx n 0 lo : Nat) : Int), 1, sIx n n hi - sIx n 0 lo) s) : wpAny (model prog w) A (Builtin.Slice.sliceApplied (.ref sl) (pure (n : Int))) Q E s := by
  obtain ⟨os, hos, hcs, hds⟩ := id hs
  unfold Builtin.Slice.sliceApplied Builtin.Slice.sliceFields
  refine wpAny_bind (wpAny_bind (wpAny_field hos hds (x := vl) rfl (wpAny_bind (wpAny_field hos hds (x := vu) rfl (wpAny_bind (wpAny_field hos hds (x := .none) rfl (wpAny_pure ?_)))))))
  refine wpAny_bind (slicePart_none ?_)
  show wpAny _ _ (if ((1 : Int) == 0) = true then _ else _) _ _ s
  rw [if_neg (by decide)]
  refine wpAny_bind (slicePart_ pl (wpAny_bind (slicePart_ pu (wpAny_bind (wpAny_pure ?_)))))
  show wpAny _ _ (match Builtin.Slice.sliceAdjust lo hi 1 (n : Int) with | (lo, hi) => pure (lo, (1 : Int), Builtin.Slice.slicePlaces lo hi 1)) _ _ s
  rw [adjust_gen lo hi n]
  show wpAny _ _ (pure (((sIx n 0 lo : Nat) : Int), (1 : Int), Builtin.Slice.slicePlaces ((sIx n 0 lo : Nat) : Int) ((sIx n n hi : Nat) : Int) 1)) _ _ s
  rw [places_gen]
  exact wpAny_pure h
theorem pick_gen (xs : Array Value) (i k : Nat) : ((List.range k).filterMap fun (m : Nat) => xs[((i : Int) + (m : Int) * 1).toNat]?).toArray = ((xs.toList.drop i).take k).toArray := by
  have e : (fun (m : Nat) => xs[((i : Int) + (m : Int) * 1).toNat]?) = fun m => xs[i + m]? := by
    funext m
    have : ((i : Int) + (m : Int) * 1).toNat = i + m := by omega
    rw [this]
  rw [e]
  have := pick_run xs i k
  rw [List.filterMap_map] at this
  have e2 : ((fun x => xs[x]?) ∘ fun x => i + x) = fun m => xs[i + m]? := rfl
  rw [e2] at this
  rw [this]

theorem getItem_tuple_cut {t sl : Addr} {items : Array Value} {vl vu : Value} {lo hi : Option Int} {Q : Value → Shared → Prop} (ht : IsTup s.heap t items) (hs : s.heap.IsSliceOf sl vl vu .none) (pl : IsPart vl lo) (pu : IsPart vu hi)
    (hw : ¬ (sIx items.size 0 lo = 0 ∧ sIx items.size items.size hi = items.size))
    (h : Q (.ref s.heap.objs.size) { s with heap := s.heap.push { cls := .type "tuple", data := .seq ((items.toList.drop (sIx items.size 0 lo)).take (sIx items.size items.size hi - sIx items.size 0 lo)).toArray } })
    (hsz : items.size ≤ sizeLine) : wpAny (model prog w) A (getItem (.ref t) (.ref sl)) Q E s := by
  have htake : sizeOk (.seq ((items.toList.drop (sIx items.size 0 lo)).take (sIx items.size items.size hi - sIx items.size 0 lo)).toArray) := by
    show ((items.toList.drop (sIx items.size 0 lo)).take (sIx items.size items.size hi - sIx items.size 0 lo)).toArray.size ≤ sizeLine
    rw [List.size_toArray, List.length_take, List.length_drop, Array.length_toList]
    omega
  have hj : sIx items.size items.size hi ≤ items.size := sIx_le _ _ (Nat.le_refl _) hi
  obtain ⟨os, hos, hcs, hds⟩ := id hs
  have hTs : s.TypeIs (.ref sl) "slice" := ⟨os, hos, hcs⟩
  unfold getItem
  try with_reducible refine wpAny_holding ?_
  first | refine wpAny_bind (wpAny_pure ?_) | skip
  refine wpAny_bind (wpAny_sequenceKey ht.typeIs (by decide) ?_)
  refine wpAny_bind (wpAny_callSpecial?_slot (name := Str.ofString "__getitem__") ht.typeIs PyProof.Rows.slot_tuple_getitem
    (wpAny_call_entry PyProof.Rows.slot_tuple_getitem ht.typeIs entry_tuple_getitem ?_ (args_tuple_getitem _ _)))
  show wpAny _ _ (Builtin.Tuple.tupleItemsOf (.ref t) >>= _) _ _ s
  refine wpAny_bind (tupleItemsOf_ ht ?_)
  refine wpAny_bind (wpAny_typeOf hTs ?_)
  rw [if_pos (by decide)]
  refine wpAny_bind (sliceApplied_gen hs pl pu ?_)
  have hno : ¬ ((((sIx items.size 0 lo : Nat) : Int) == 0 && (1 : Int) == 1 && (sIx items.size items.size hi - sIx items.size 0 lo) == items.size) = true) := by
    intro q
    rw [Bool.and_eq_true, Bool.and_eq_true] at q
    have q1 : ((sIx items.size 0 lo : Nat) : Int) = 0 := eq_of_beq q.1.1
    have q2 : sIx items.size items.size hi - sIx items.size 0 lo = items.size := eq_of_beq q.2
    exact hw ⟨by omega, by omega⟩
  show wpAny _ _ (if (((sIx items.size 0 lo : Nat) : Int) == 0 && (1 : Int) == 1 && (sIx items.size items.size hi - sIx items.size 0 lo) == items.size) = true then _ else _) _ _ s
  rw [if_neg hno, pick_gen]
  first
    | exact wpAny_bind (m := Builtin.Tuple.tupleExact _) (wpAny_newObj_type (wpAny_pure ⟨_, rfl, wpAny_pure h⟩) htake)
    | exact wpAny_bind (m := Builtin.Tuple.tupleExact _) (wpAny_newObj_type (wpAny_bind (wpAny_pure (wpAny_pure ⟨_, rfl, wpAny_pure h⟩))) htake)
    | exact wpAny_bind (wpAny_bind (m := Builtin.Tuple.tupleExact _) (wpAny_newObj_type (wpAny_pure (wpAny_pure ⟨_, rfl, wpAny_pure h⟩)) htake))
    | exact wpAny_bind (wpAny_bind (m := Builtin.Tuple.tupleExact _) (wpAny_newObj_type (wpAny_pure ⟨_, rfl, wpAny_pure h⟩) htake))
end
end HT

namespace L2
open PySem PySem.Spec PyProof.Rows

/-! ### the parts of a slice -/
abbrev TO := St → Hp → (Option Int → Hp → Prop) → Prop
/-- a slice's part (left out, or an int) -/
def PO (X : Cx) (e : Option Expr) (t : TO) : Prop :=
  ∀ (pins : List (Addr × Obj)) (s : Shared) (σ : St) (H : Hp) (Q : Option Int → Hp → Prop), Inv X pins σ H s → t σ H Q →
    wpAny (model X.prog X.w) X.A (evalPart e X.env) (fun u s' => ∃ o H', Inv X pins σ H' s' ∧ IsPart u o ∧ Q o H') X.xe s
def tNoPart : TO := fun _ H Q => Q none H
def tPart (t : TE) : TO := fun σ H Q => t σ H fun x H1 => ∃ i, x = .int i ∧ Q (some i) H1

section
variable {X : Cx} {e : Expr} {te : TE} {lo hi : Option Expr} {tl th : TO} {pos p2 : Pos}

theorem po_none : PO X none tNoPart := by
  intro pins s σ H Q I h
  rw [evalPart_none]
  exact wpAny_pure ⟨none, H, I, .none, h⟩
theorem po_some (h : PE X e te) : PO X (some e) (tPart te) := by
  intro pins s σ H Q I hw
  rw [evalPart_some]
  refine thn (h pins s σ H _ I hw) fun u s1 ⟨x, H1, I1, r1, q1⟩ => ?_
  obtain ⟨i, rfl, q⟩ := q1
  obtain ⟨t, rfl⟩ := r1
  exact ⟨some i, H1, I1, .int i t, q⟩

/-- what a slice of a value is, by values: the slice object stands at sl -/
def SlR (X : Cx) (r : V → Option Int → Option Int → Hp → VK → Prop) : Prop :=
  ∀ (pins : List (Addr × Obj)) (s : Shared) (σ : St) (H : Hp) (x : V) (v vl vu : Value) (lo hi : Option Int) (sl : Addr) (Q : VK), Inv X pins σ H s → RelV x v → s.heap.IsSliceOf sl vl vu .none → IsPart vl lo → IsPart vu hi → r x lo hi H Q →
    ∃ T id, typeLookup (.type T) "__getitem__" = pure (some (.builtin id)) ∧ s.TypeIs v T ∧ wpAny (model X.prog X.w) X.A (getItem v (.ref sl)) (EP X pins σ Q) X.xe s
def tSl (r : V → Option Int → Option Int → Hp → VK → Prop) (te : TE) (tl th : TO) : TE := fun σ H Q => te σ H fun x H1 => tl σ H1 fun l H2 => th σ H2 fun u H3 => r x l u H3 Q
/-- a[lo:hi], any a -/
theorem pe_slice {r : V → Option Int → Option Int → Hp → VK → Prop} (hr : SlR X r) (he : PE X e te) (hl : PO X lo tl) (hu : PO X hi th) : PE X (.Subscript e (.Slice lo hi none p2) pos) (tSl r te tl th) := by
  intro pins s σ H Q I h
  refine Subscript_ (thn (he pins s σ H _ I h) fun v s1 ⟨x, H1, I1, r1, q1⟩ => ?_)
  refine wpAny_Slice (thn (hl pins s1 σ H1 _ I1 q1) fun vl s2 ⟨l, H2, I2, pl, q2⟩ => thn (hu pins s2 σ H2 _ I2 q2) fun vu s3 ⟨u, H3, I3, pu, q3⟩ => ?_)
  rw [evalPart_none]
  refine wpAny_pure ?_
  have I4 : Inv X pins σ H3 { s3 with heap := s3.heap.push { cls := .type "slice", data := .fields #[vl, vu, .none] } } := I3.kept (t' := s3.toks) fun b ob q => Heap.get?_push_of_some _ q
  obtain ⟨T, id, hT, ht, hg⟩ := hr pins { s3 with heap := s3.heap.push { cls := .type "slice", data := .fields #[vl, vu, .none] } } σ H3 x v vl vu l u s3.heap.objs.size Q I4 r1 (Heap.IsSliceOf.new ..) pl pu q3
  show wpAny (model X.prog X.w) X.A (subscriptTail e (.Slice lo hi none p2) v (.ref s3.heap.objs.size)) (EP X pins σ Q) X.xe { s3 with heap := s3.heap.push { cls := .type "slice", data := .fields #[vl, vu, .none] } }
  exact tail_any (ops := [.ref s3.heap.objs.size, v]) ht hT hg (by with_unfolding_all rfl)

/-- the items of xs[lo:hi] -/
def cutV (xs : List V) (lo hi : Option Int) : List V := (xs.drop (HT.sIx xs.length 0 lo)).take (HT.sIx xs.length xs.length hi - HT.sIx xs.length 0 lo)
theorem cutV_length (xs : List V) (lo hi : Option Int) : (cutV xs lo hi).length ≤ xs.length := by
  unfold cutV
  rw [List.length_take, List.length_drop]
  omega
/-- t[lo:hi], not the whole of it (the whole would be t itself) -/
def rSlT (K : PySem.W.Frag) : V → Option Int → Option Int → Hp → VK → Prop := fun x lo hi H Q => ∃ a xs, x = .ref a ∧ SqT K H a xs ∧
  ¬ (HT.sIx xs.length 0 lo = 0 ∧ HT.sIx xs.length xs.length hi = xs.length) ∧ ∀ p, H p = none → Q (.ref p) (upd H p (.tup (cutV xs lo hi)))
theorem sl_tup : SlR X (rSlT X.K) := by
  intro pins s σ H x v vl vu lo hi sl Q I rx hs pl pu h
  obtain ⟨a, xs, rfl, hx, hw, q⟩ := h
  cases rx
  obtain ⟨its, r, ht, hz⟩ := I.tuple hx
  have hlen : its.toArray.size = xs.length := by rw [List.size_toArray]; exact r.length.symm
  refine ⟨"tuple", _, PyProof.Rows.slot_tuple_getitem.lookup, ht.typeIs, ?_⟩
  refine HT.getItem_tuple_cut ht hs pl pu (by rw [hlen]; exact hw) ?_ (by rw [hlen]; exact hz)
  rw [hlen]
  refine ⟨.ref s.heap.objs.size, _, I.laid (t' := s.toks) (o := .tup (cutV xs lo hi)) (fun b ob q => Heap.get?_push_of_some _ q) (Nat.le_refl _) ?_, rfl, q _ (I.hok.fresh (Nat.le_refl _))⟩
  exact ⟨Nat.le_trans (cutV_length xs lo hi) hz, _, (r.drop (HT.sIx xs.length 0 lo)).take (HT.sIx xs.length xs.length hi - HT.sIx xs.length 0 lo), IsTup.new _ _⟩

/-! ### t < u, t + u -/
def rLtT (K : PySem.W.Frag) : R2 := fun x y H Q => ∃ a b ns ms, x = .ref a ∧ y = .ref b ∧ SqT K H a (ns.map V.int) ∧ SqT K H b (ms.map V.int) ∧ Q (.bl (HT.lexLt ns ms)) H
/-- t + u, t not empty: u empty gives t itself -/
def rCatT (K : PySem.W.Frag) : R2 := fun x y H Q => ∃ a b xs ys, x = .ref a ∧ y = .ref b ∧ SqT K H a xs ∧ SqT K H b ys ∧ xs ≠ [] ∧ xs.length + ys.length ≤ sizeLine ∧
  (ys = [] → Q (.ref a) H) ∧ (ys ≠ [] → ∀ p, H p = none → Q (.ref p) (upd H p (.tup (xs ++ ys))))
theorem Vals.nil_iff {xs : List V} {us : List Value} (r : Vals xs us) : us = [] ↔ xs = [] := by
  cases r with
  | nil => simp
  | cons _ _ => simp
theorem op_catT : OpR X (binaryOp .Add) (rCatT X.K) := by
  intro pins s σ H x y v u Q I rx ry h
  obtain ⟨a, b, xs, ys, rfl, rfl, ha, hb, hx, hz, q1, q2⟩ := h
  cases rx
  cases ry
  obtain ⟨its, r1, p1, _⟩ := I.tuple ha
  obtain ⟨its2, r2, p2, _⟩ := I.tuple hb
  refine HT.cat_tup p1 p2 (fun z => hx (r1.nil_iff.mp z)) (fun z => ⟨.ref a, H, I, rfl, q1 (r2.nil_iff.mp z)⟩) (fun z => ?_) (by rw [← r1.length, ← r2.length]; exact hz)
  refine ⟨.ref s.heap.objs.size, _, I.laid (t' := s.toks) (o := .tup (xs ++ ys)) (fun b ob q => Heap.get?_push_of_some _ q) (Nat.le_refl _) ?_, rfl, q2 (fun w => z (r2.nil_iff.mpr w)) _ (I.hok.fresh (Nat.le_refl _))⟩
  exact ⟨by rw [List.length_append]; exact hz, _, r1.append r2, IsTup.new _ _⟩
end
end L2

namespace L2
open PySem PySem.Spec PyProof.Rows

/-! ### places -/
/-- the place that an index of any sign means -/
def ixN (n : Nat) (i : Int) : Option Nat := if 0 ≤ i then (if i < n then some i.toNat else none) else if -(n : Int) ≤ i then some (i + n).toNat else none
def atI {α : Type} (xs : List α) (i : Int) : Option α := (ixN xs.length i).bind fun j => xs[j]?
theorem ixN_seq {n : Nat} {i : Int} {j : Nat} (h : ixN n i = some j) : seqIndex? i n = some j ∧ j < n ∧ -(n : Int) ≤ i ∧ i < n := by
  unfold ixN at h
  by_cases h0 : 0 ≤ i
  · rw [if_pos h0] at h
    by_cases h1 : i < n
    · rw [if_pos h1] at h
      have e : i.toNat = j := Option.some.inj h
      exact ⟨by rw [seqIndex_of h0 h1, e], by omega, by omega, h1⟩
    · rw [if_neg h1] at h; cases h
  · rw [if_neg h0] at h
    by_cases h1 : -(n : Int) ≤ i
    · rw [if_pos h1] at h
      have e : (i + n).toNat = j := Option.some.inj h
      exact ⟨by rw [seqIndex_neg (by omega) h1, e], by omega, h1, by omega⟩
    · rw [if_neg h1] at h; cases h
theorem atI_get {α : Type} {xs : List α} {i : Int} {v : α} (h : atI xs i = some v) : ∃ j, seqIndex? i xs.length = some j ∧ xs[j]? = some v ∧ j < xs.length ∧ -(xs.length : Int) ≤ i ∧ i < xs.length := by
  unfold atI at h
  cases e : ixN xs.length i with
  | none => rw [e] at h; cases h
  | some j =>
    rw [e] at h
    obtain ⟨h1, h2, h3, h4⟩ := ixN_seq e
    exact ⟨j, h1, h, h2, h3, h4⟩
theorem atI_nat {α : Type} {xs : List α} {j : Nat} {v : α} (h : xs[j]? = some v) : atI xs (j : Int) = some v := by
  have hj : j < xs.length := (List.getElem?_eq_some_iff.mp h).1
  have e : ixN xs.length (j : Int) = some j := by
    unfold ixN
    rw [if_pos (by omega), if_pos (by omega)]; simp
  unfold atI; rw [e]; exact h
/-! ### what may be subscripted -/
/-- what stands as an index of a plain subscript -/
def PlainIx (b : Expr) : Prop := ∀ o i, subscripted b false o i = operate [o, i] (getItem o i)
/-- a subscript by values -/
def IxR (X : Cx) (r : R2) : Prop :=
  ∀ (value slice : Expr) (pins : List (Addr × Obj)) (s : Shared) (σ : St) (H : Hp) (x y : V) (v u : Value) (Q : VK), Inv X pins σ H s → RelV x v → RelV y u → r x y H Q →
    subscripted slice false v u = operate [v, u] (getItem v u) → wpAny (model X.prog X.w) X.A (subscriptTail value slice v u) (EP X pins σ Q) X.xe s
/-- a call of a builtin's method by values: the receiver, the arguments -/
def MtR (X : Cx) (id : String) (r : V → List V → Hp → VK → Prop) : Prop :=
  ∀ (pins : List (Addr × Obj)) (s : Shared) (σ : St) (H : Hp) (x : V) (xs : List V) (v : Value) (us : List Value) (Q : VK), Inv X pins σ H s → RelV x v → Vals xs us → r x xs H Q →
    wpAny (model X.prog X.w) X.A (call (.builtin id) (v :: us)) (EP X pins σ Q) X.xe s
section
variable {X : Cx} {a b : Expr} {ta tb : TE} {pos : Pos}
/-- a[b] -/
theorem pe_ix {r : R2} (hr : IxR X r) (ha : PE X a ta) (hb : PE X b tb) (hs : PlainIx b) : PE X (.Subscript a b pos) (tOp r ta tb) := by
  intro pins s σ H Q I h
  exact Subscript_ (binT ha hb I h fun v u s2 x y H2 I2 rx ry q => hr a b pins s2 σ H2 x y v u Q I2 rx ry q (hs _ _))

def rIxL (K : PySem.W.Frag) : R2 := fun x y H Q => ∃ p xs i v, x = .ref p ∧ y = .int i ∧ SqL K H p xs ∧ atI xs i = some v ∧ Q v H
def rIxT (K : PySem.W.Frag) : R2 := fun x y H Q => ∃ p xs i v, x = .ref p ∧ y = .int i ∧ SqT K H p xs ∧ atI xs i = some v ∧ Q v H
def rIxS : R2 := fun x y H Q => ∃ z i c, x = .str z ∧ y = .int i ∧ z.length ≤ sizeLine ∧ atI z.cps.toList i = some c ∧ Q (.str ⟨#[c]⟩) H
theorem ix_list : IxR X (rIxL X.K) := by
  intro value slice pins s σ H x y v u Q I rx ry h hs
  obtain ⟨p, xs, i, z, rfl, rfl, hq, he, q⟩ := h
  cases rx
  obtain ⟨t, rfl⟩ := ry
  obtain ⟨its, r, pl, hz⟩ := I.list hq
  obtain ⟨j, h1, h2, h3, h4, h5⟩ := atI_get he
  obtain ⟨w, ew, rw'⟩ := r.get h2
  have hl := r.length
  have hn := line63
  have fin : EP X pins σ Q w s := ⟨z, H, I, rw', q⟩
  by_cases h0 : 0 ≤ i
  · have hj : i.toNat = j := by
      rw [seqIndex_of h0 h5] at h1
      exact Option.some.inj h1
    exact item_listR pl.isList h0 (by omega) (by rw [hj]; simpa using ew) fin hs
  · have hj : (i + (its.toArray.size : Int)).toNat = j := by
      rw [seqIndex_neg (by omega) h4] at h1
      rw [List.size_toArray, ← hl]
      exact Option.some.inj h1
    exact subscriptTail_builtinR (x := w) pl.isList.typeIs slot_list_getitem.lookup
      (wpAny_getItem_list_neg (Q := fun r s' => r = w ∧ EP X pins σ Q r s') pl.isList (by omega) (by rw [List.size_toArray] <;> omega) (by omega) (by rw [hj]; simpa using ew) ⟨rfl, fin⟩) hs
theorem ix_tup : IxR X (rIxT X.K) := by
  intro value slice pins s σ H x y v u Q I rx ry h hs
  obtain ⟨p, xs, i, z, rfl, rfl, hq, he, q⟩ := h
  cases rx
  obtain ⟨t, rfl⟩ := ry
  obtain ⟨its, r, pl, hz⟩ := I.tuple hq
  obtain ⟨j, h1, h2, h3, h4, h5⟩ := atI_get he
  obtain ⟨w, ew, rw'⟩ := r.get h2
  have hl := r.length
  have hn := line63
  have fin : EP X pins σ Q w s := ⟨z, H, I, rw', q⟩
  exact subscriptTail_builtinR (x := w) pl.typeIs slot_tuple_getitem.lookup
    (getItem_tuple (j := j) (Q := fun r s' => r = w ∧ EP X pins σ Q r s') pl (by omega) (by omega) (by rw [List.size_toArray, ← hl]; exact h1) (by simpa using ew) ⟨rfl, fin⟩) hs
theorem ix_str : IxR X rIxS := by
  intro value slice pins s σ H x y v u Q I rx ry h hs
  obtain ⟨z, i, c, rfl, rfl, hz, he, q⟩ := h
  obtain ⟨t, rfl⟩ := rx
  obtain ⟨t', rfl⟩ := ry
  obtain ⟨j, h1, h2, h3, h4, h5⟩ := atI_get he
  have hl : z.cps.toList.length = z.length := by simp [Str.length]
  rw [hl] at h1 h4 h5
  have hn := line63
  exact tail_any (typeIs_str s z t) slot_str_getitem.lookup (getItem_str (c := c) (by
    have e1 : decide (i < -(2 ^ 63 : Int)) = false := decide_eq_false (by omega)
    have e2 : decide (i ≥ 2 ^ 63) = false := decide_eq_false (by omega)
    rw [e1, e2, Bool.or_false]) (by rw [h1]; simpa using h2) ⟨.str ⟨#[c]⟩, H, I.tok _, ⟨_, rfl⟩, q⟩) hs
/-- list, tuple or str -/
def rIx (K : PySem.W.Frag) : R2 := fun x y H Q => rIxL K x y H Q ∨ rIxT K x y H Q ∨ rIxS x y H Q
/-! ### xs[i] = v, any sign -/
/-- the list's object behind a store -/
theorem mapSeq_set (its : List Value) (n j : Nat) (u : Value) : Obj.mapSeq (·.setIfInBounds j u) { cls := .type "list", data := .seq its.toArray n } = { cls := .type "list", data := .seq (its.set j u).toArray n } := by
  simp [Obj.mapSeq]
theorem Inv.lst {pins : List (Addr × Obj)} {σ : St} {H : Hp} {s : Shared} {p : Addr} {xs : List V} (I : Inv X pins σ H s) (h : H p = some (.lst xs)) :
    ∃ (its : List Value) (n : Nat), Vals xs its ∧ s.heap.get? p = some { cls := .type "list", data := .seq its.toArray n } ∧ xs.length ≤ sizeLine := by
  obtain ⟨z, its, n, r, e⟩ := I.hok p _ h
  exact ⟨its, n, r, e, z⟩
/-- the list at p is written by an update of its object -/
theorem Inv.lstUpd {pins : List (Addr × Obj)} {σ : St} {H : Hp} {s : Shared} {p : Addr} {xs ys : List V} {its its' : List Value} {n n' : Nat} {f : Obj → Obj} (I : Inv X pins σ H s) (h : H p = some (.lst xs))
    (ho : s.heap.get? p = some { cls := .type "list", data := .seq its.toArray n }) (hf : f { cls := .type "list", data := .seq its.toArray n } = { cls := .type "list", data := .seq its'.toArray n' }) (r : Vals ys its') (hz : ys.length ≤ sizeLine) (t : Nat) :
    Inv X pins σ (upd H p (.lst ys)) { s with heap := s.heap.update p f, toks := t } := by
  have e : (s.heap.update p f).get? p = some { cls := .type "list", data := .seq its'.toArray n' } := by
    rw [Heap.get?_update_self f ho (by rw [hf] <;> rfl), hf]
  refine I.write (x := p) (e := p) (by rw [h]; trivial) (.inl rfl) (fun b u hb q => (Heap.get?_update_other _ _ (Ne.symm hb)).trans q) ⟨_, e⟩ ?_
  exact ⟨hz, its', n', r, e⟩
def rSetL : V → V → V → Hp → (Hp → Prop) → Prop := fun o i v H Q => ∃ p xs k j, o = .ref p ∧ i = .int k ∧ H p = some (.lst xs) ∧ ixN xs.length k = some j ∧ Q (upd H p (.lst (xs.set j v)))
theorem set_list : PSet X rSetL := by
  intro pins s σ H o i v ov iv u Q I ro ri rv h
  obtain ⟨p, xs, k, j, rfl, rfl, hp, hj, q⟩ := h
  cases ro
  obtain ⟨t, rfl⟩ := ri
  obtain ⟨its, n, r, ho, hz⟩ := I.lst hp
  obtain ⟨h1, h2, h3, h4⟩ := ixN_seq hj
  have hl := r.length
  have hn := line63
  have I' : Inv X pins σ (upd H p (.lst (xs.set j v))) { s with heap := s.heap.update p (Obj.mapSeq (·.setIfInBounds j u)) } :=
    I.lstUpd hp ho (mapSeq_set its n j u) (r.set rv j) (by rw [List.length_set]; exact hz) s.toks
  by_cases h0 : 0 ≤ k
  · have hk : k.toNat = j := by
      rw [seqIndex_of h0 h4] at h1
      exact Option.some.inj h1
    exact PySem.W.ki_setAt ho h0 (by omega) (by rw [List.size_toArray, ← hl]; exact h4) (by rw [hk]; exact ⟨_, I', q⟩)
  · have hk : (k + (its.toArray.size : Int)).toNat = j := by
      rw [seqIndex_neg (by omega) h3] at h1
      rw [List.size_toArray, ← hl]
      exact Option.some.inj h1
    exact PySem.W.ki_setBack ho (by omega) (by rw [List.size_toArray, ← hl]; exact h3) (by omega) (by rw [hk]; exact ⟨_, I', q⟩)

/-! ### slices -/
/-- xs[lo:hi] of a list: a new list -/
def rSlL (K : PySem.W.Frag) : V → Option Int → Option Int → Hp → VK → Prop := fun x lo hi H Q => ∃ a xs, x = .ref a ∧ SqL K H a xs ∧ ∀ p, H p = none → Q (.ref p) (upd H p (.lst (cutV xs lo hi)))
/-! ### in, not in: flat items -/
def flatV : V → Bool
  | .non => true
  | .bl _ => true
  | .int _ => true
  | .str _ => true
  | _ => false
/-- == of flat values -/
def eqV : V → V → Bool
  | .non, .non => true
  | .bl a, .bl b => a == b
  | .bl a, .int b => (if a then 1 else 0) == b
  | .int a, .bl b => a == (if b then 1 else 0)
  | .int a, .int b => a == b
  | .str a, .str b => a == b
  | _, _ => false
theorem eqAt_V {A : Around} {s : Shared} {y x : V} {u v : Value} (ry : RelV y u) (rx : RelV x v) (fy : flatV y = true) (fx : flatV x = true) : SeqAt.EqAt A s u v (eqV y x) := by
  cases y with
  | non =>
    cases ry
    cases x with
    | non => cases rx; exact SeqAt.EqAt.same _
    | bl b => cases rx; exact SeqAt.EqAt.none_bool b
    | int b => obtain ⟨t, rfl⟩ := rx; exact SeqAt.EqAt.none_int b t
    | str b => obtain ⟨t, rfl⟩ := rx; exact SeqAt.EqAt.none_str b t
    | _ => exact absurd (show false = true from fx) Bool.false_ne_true
  | bl a =>
    cases ry
    cases x with
    | non => cases rx; exact SeqAt.EqAt.bool_none a
    | bl b => cases rx; exact SeqAt.EqAt.bool_bool a b
    | int b => obtain ⟨t, rfl⟩ := rx; exact SeqAt.EqAt.bool_int a b t
    | str b => obtain ⟨t, rfl⟩ := rx; exact SeqAt.EqAt.bool_str a b t
    | _ => exact absurd (show false = true from fx) Bool.false_ne_true
  | int a =>
    obtain ⟨t', rfl⟩ := ry
    cases x with
    | non => cases rx; exact SeqAt.EqAt.int_none a t'
    | bl b => cases rx; exact SeqAt.EqAt.int_bool a t' b
    | int b => obtain ⟨t, rfl⟩ := rx; exact SeqAt.EqAt.int_int a t' b t
    | str b => obtain ⟨t, rfl⟩ := rx; exact SeqAt.EqAt.int_str a t' b t
    | _ => exact absurd (show false = true from fx) Bool.false_ne_true
  | str a =>
    obtain ⟨t', rfl⟩ := ry
    cases x with
    | non => cases rx; exact SeqAt.EqAt.str_none a t'
    | bl b => cases rx; exact SeqAt.EqAt.str_bool a t' b
    | int b => obtain ⟨t, rfl⟩ := rx; exact SeqAt.EqAt.str_int a t' b t
    | str b => obtain ⟨t, rfl⟩ := rx; exact SeqAt.EqAt.str_str a t' b t
    | _ => exact absurd (show false = true from fx) Bool.false_ne_true
  | _ => exact absurd (show false = true from fy) Bool.false_ne_true
/-- the items' answers, read off the values (a value's own answer does not lean on its token) -/
def eqU (x : V) (u : Value) : Bool := match u with
  | .none => eqV .non x
  | .bool b => eqV (.bl b) x
  | .int i _ => eqV (.int i) x
  | .str z _ => eqV (.str z) x
  | _ => false
theorem eqU_of {x y : V} {u : Value} (r : RelV y u) (f : flatV y = true) : eqU x u = eqV y x := by
  cases y with
  | non => cases r; rfl
  | bl b => cases r; rfl
  | int i => obtain ⟨t, rfl⟩ := r; rfl
  | str z => obtain ⟨t, rfl⟩ := r; rfl
  | _ => exact absurd (show false = true from f) Bool.false_ne_true
theorem any_eqU {x : V} : ∀ {xs : List V} {us : List Value}, Vals xs us → xs.all flatV = true → us.any (eqU x) = xs.any fun y => eqV y x
  | _, _, .nil, _ => rfl
  | y :: xs, u :: us, .cons r t, f => by
    rw [List.all_cons, Bool.and_eq_true] at f
    rw [List.any_cons, List.any_cons, eqU_of r f.1, any_eqU t f.2]
theorem mem_eqAt {A : Around} {s : Shared} {x : V} {v : Value} (rx : RelV x v) (fx : flatV x = true) : ∀ {xs : List V} {us : List Value}, Vals xs us → xs.all flatV = true → ∀ u ∈ us, SeqAt.EqAt A s u v (eqU x u)
  | _, _, .nil, _ => fun u hu => by cases hu
  | y :: xs, u :: us, .cons r t, f => fun u' hu => by
    rw [List.all_cons, Bool.and_eq_true] at f
    rcases List.mem_cons.mp hu with rfl | hu
    · rw [eqU_of r f.1]; exact eqAt_V r rx f.1 fx
    · exact mem_eqAt rx fx t f.2 u' hu
def inV (x : V) (xs : List V) : Bool := xs.any fun y => eqV y x
/-- x in a list or tuple of flat items -/
def rIn (K : PySem.W.Frag) (neg : Bool) : R2 := fun x y H Q => ∃ p xs, y = .ref p ∧ (SqL K H p xs ∨ SqT K H p xs) ∧ flatV x = true ∧ xs.all flatV = true ∧ Q (.bl (if neg then !inV x xs else inV x xs)) H
theorem op_in_seq : OpR X (compareOp .In) (rIn X.K false) := by
  intro pins s σ H x y v u Q I rx ry h
  obtain ⟨p, xs, rfl, hq, fx, fs, q⟩ := h
  cases ry
  rcases hq with hq | hq
  · obtain ⟨its, r, pl, hz⟩ := I.list hq
    refine SeqAt.in_listAt (eqU x) pl.isList (fun w hw => mem_eqAt rx fx r fs w (by simpa using hw)) ⟨.bl _, H, I, rfl, ?_⟩
    rw [show its.toArray.any (eqU x) = its.any (eqU x) by simp, any_eqU r fs]
    exact q
  · obtain ⟨its, r, pl, hz⟩ := I.tuple hq
    refine SeqAt.in_tupleAt (eqU x) pl (fun w hw => mem_eqAt rx fx r fs w (by simpa using hw)) ⟨.bl _, H, I, rfl, ?_⟩
    rw [show its.toArray.any (eqU x) = its.any (eqU x) by simp, any_eqU r fs]
    exact q
/-! ### len, list(x), tuple(x) of any list or tuple that is read -/
theorem call_len_seq : CallR X (.builtin "len") (fun xs H Q => ∃ p ys, xs = [.ref p] ∧ (SqL X.K H p ys ∨ SqT X.K H p ys) ∧ Q (.int ys.length) H) := by
  intro pins s σ H xs us Q I r h
  obtain ⟨p, ys, rfl, hq, q⟩ := h
  obtain ⟨u, rfl, rx⟩ := vals1 r
  cases rx
  have hn := line63
  rcases hq with hq | hq
  · obtain ⟨its, r', pl, hz⟩ := I.list hq
    have hlen := r'.length
    exact Calls.call_len_list pl.isList (by simp only [List.size_toArray] <;> omega) ⟨.int ys.length, H, I.tok _, ⟨s.toks + 1, by rw [List.size_toArray, hlen]⟩, q⟩
  · obtain ⟨its, r', pl, hz⟩ := I.tuple hq
    have hlen := r'.length
    exact len_tuple pl (by simp only [List.size_toArray] <;> omega) ⟨.int ys.length, H, I.tok _, ⟨s.toks + 1, by rw [List.size_toArray, hlen]⟩, q⟩
theorem call_len_str : CallR X (.builtin "len") (fun xs H Q => ∃ z, xs = [.str z] ∧ z.length ≤ sizeLine ∧ Q (.int z.length) H) := by
  intro pins s σ H xs us Q I r h
  obtain ⟨z, rfl, hz, q⟩ := h
  obtain ⟨u, rfl, t, rfl⟩ := vals1 r
  have hn := line63
  exact len_str (by omega) ⟨.int z.length, H, I.tok _, ⟨_, rfl⟩, q⟩
theorem call_list_of : CallR X (.type "list") (fun xs H Q => ∃ p ys, xs = [.ref p] ∧ (SqL X.K H p ys ∨ SqT X.K H p ys) ∧ ∀ l, H l = none → Q (.ref l) (upd H l (.lst ys))) := by
  intro pins s σ H xs us Q I r h
  obtain ⟨p, ys, rfl, hq, q⟩ := h
  obtain ⟨u, rfl, rx⟩ := vals1 r
  cases rx
  have fin : ∀ (its : List Value), Vals ys its → ys.length ≤ sizeLine → ∀ (h' : Heap) (c' : Nat), (∀ b o', s.heap.get? b = some o' → h'.get? b = some o') →
      h'.get? s.heap.objs.size = some { cls := .type "list", dict := none, data := .seq its.toArray c', slots := #[] } → EP X pins σ Q (.ref s.heap.objs.size) { s with heap := h' } := fun its r' hz h' c' kp e =>
    ⟨.ref s.heap.objs.size, _, I.laid (t' := s.toks) kp (Nat.le_refl _) (show ObjOk X.prog X.w _ h' _ (.lst ys) from ⟨hz, its, c', r', e⟩), rfl, q _ (I.hok.fresh (Nat.le_refl _))⟩
  rcases hq with hq | hq
  · obtain ⟨its, r', pl, hz⟩ := I.list hq
    have hlen := r'.length
    obtain ⟨o, ho, hc, n, hd⟩ := pl.isList
    exact call_list_seq p (.inl rfl) ho hc hd (fun h' c' kp e => fin its r' hz h' c' kp e) (by simp only [List.size_toArray] <;> omega)
  · obtain ⟨its, r', pl, hz⟩ := I.tuple hq
    have hlen := r'.length
    obtain ⟨o, ho, hc, n, hd⟩ := pl
    exact call_list_seq p (.inr rfl) ho hc hd (fun h' c' kp e => fin its r' hz h' c' kp e) (by simp only [List.size_toArray] <;> omega)
theorem call_tuple_of : CallR X (.type "tuple") (fun xs H Q => ∃ p ys, xs = [.ref p] ∧ ((SqL X.K H p ys ∧ ∀ l, H l = none → Q (.ref l) (upd H l (.tup ys))) ∨ (SqT X.K H p ys ∧ Q (.ref p) H))) := by
  intro pins s σ H xs us Q I r h
  obtain ⟨p, ys, rfl, h⟩ := h
  obtain ⟨u, rfl, rx⟩ := vals1 r
  cases rx
  rcases h with ⟨hq, q⟩ | ⟨hq, q⟩
  · obtain ⟨its, r', pl, hz⟩ := I.list hq
    have hlen := r'.length
    refine call_tuple_list pl.isList (fun h' kp => ?_) (by simp only [List.size_toArray] <;> omega)
    have I1 : Inv X pins σ H { s with heap := h' } := I.kept (t' := s.toks) kp
    have I2 : Inv X pins σ (upd H h'.objs.size (.tup ys)) { s with heap := h'.push { cls := .type "tuple", data := .seq its.toArray } } :=
      I1.laid (t' := s.toks) (fun b o e => Heap.get?_push_of_some _ e) (Nat.le_refl _) (show ObjOk X.prog X.w _ _ _ (.tup ys) from ⟨hz, its, r', IsTup.new _ _⟩)
    exact ⟨.ref h'.objs.size, _, I2, rfl, q _ (I1.hok.fresh (Nat.le_refl _))⟩
  · obtain ⟨its, r', pl, hz⟩ := I.tuple hq
    exact call_tuple_same pl ⟨.ref p, H, I, rfl, q⟩

/-! ### the call of a builtin's method: o.m(..) -/
/-- the value is of that builtin type -/
def tyV (K : PySem.W.Frag) (T : String) (x : V) (H : Hp) : Prop := match x with
  | .str _ => T = "str"
  | .int _ => T = "int"
  | .ref p => (T = "list" ∧ ∃ xs, SqL K H p xs) ∨ (T = "tuple" ∧ ∃ o, K.lookup p = some o ∧ o.cls = .type "tuple" ∧ o.dict = none) ∨
      (T = "dict" ∧ ((∃ kvs, H p = some (.dK kvs)) ∨ ∃ kvs, H p = some (.dT kvs))) ∨ (T = "set" ∧ ∃ S n, H p = some (.set S n))
  | _ => False
theorem tyV_is {pins : List (Addr × Obj)} {σ : St} {H : Hp} {s : Shared} {T : String} {x : V} {v : Value} (I : Inv X pins σ H s) (r : RelV x v) (ty : tyV X.K T x H) :
    s.TypeIs v T ∧ ∀ a, v = .ref a → ∃ ob, s.heap.get? a = some ob ∧ ob.dict = none := by
  cases x with
  | str z =>
    obtain ⟨t, rfl⟩ := r
    cases (show T = "str" from ty)
    exact ⟨typeIs_str s z t, fun _ e => nomatch e⟩
  | int i =>
    obtain ⟨t, rfl⟩ := r
    cases (show T = "int" from ty)
    exact ⟨typeIs_int s i t, fun _ e => nomatch e⟩
  | ref p =>
    cases r
    rcases ty with ⟨rfl, xs, hq⟩ | ⟨rfl, o, hk, hc, hd⟩ | ⟨rfl, hk⟩ | ⟨rfl, S, n, hk⟩
    · obtain ⟨its, _, pl, _⟩ := I.list hq
      refine ⟨pl.isList.typeIs, fun a e => ?_⟩
      cases e
      obtain ⟨o, n, e, c, hd, _⟩ := pl
      exact ⟨o, e, hd⟩
    · refine ⟨⟨o, I.kIn p o hk, hc⟩, fun a e => ?_⟩
      cases e
      exact ⟨o, I.kIn _ o hk, hd⟩
    · have z : ∃ o, s.heap.get? p = some o ∧ o.ExactDict := by
        rcases hk with ⟨kvs, hk⟩ | ⟨kvs, hk⟩
        · obtain ⟨_, _, _, _, o, _, _, e, ex, _⟩ := I.hok p _ hk
          exact ⟨o, e, ex⟩
        · obtain ⟨_, _, _, _, o, _, _, e, ex, _⟩ := I.hok p _ hk
          exact ⟨o, e, ex⟩
      obtain ⟨o, e, ex⟩ := z
      refine ⟨⟨o, e, ex.1⟩, fun a e2 => ?_⟩
      cases e2
      exact ⟨o, e, ex.2.1⟩
    · obtain ⟨o, _, _, _, e, ex, _⟩ := I.hok p _ hk
      refine ⟨⟨o, e, ex.1⟩, fun a e2 => ?_⟩
      cases e2
      exact ⟨o, e, ex.2.1⟩
  | _ => exact False.elim ty
def tBM0 (K : PySem.W.Frag) (T : String) (r : V → List V → Hp → VK → Prop) (to : TE) : TE := fun σ H Q => to σ H fun x H1 => tyV K T x H1 ∧ r x [] H1 Q
def tBM (K : PySem.W.Frag) (T : String) (r : V → List V → Hp → VK → Prop) (to : TE) (t : TA) : TE := fun σ H Q => to σ H fun x H1 => tyV K T x H1 ∧ t σ H1 fun xs H2 => r x xs H2 Q
variable {o e : Expr} {es : List Expr} {to : TE} {t : TA} {name : Str} {apos cpos : Pos} {T id : String} {r : V → List V → Hp → VK → Prop}
theorem pe_bm0 (pa : PlainAttrs T) (slot : Slot T name id) (hty : typeOf (.builtin id) = pure (.type "method_descriptor")) (hm : MtR X id r) (ho : PE X o to)
    (hbase : attributeBase o name X.env (eval o X.env) = eval o X.env := by rfl) (hline : (apos.endLine == cpos.line) = true := by rfl) : PE X (.Call (.Attribute o name apos) [] [] cpos) (tBM0 X.K T r to) := by
  intro pins s σ H Q I h
  refine wpAny_Call_method0_late hbase hline (thn (ho pins s σ H _ I h) fun v s1 ⟨x, H1, I1, r1, ty, q1⟩ => ?_)
  obtain ⟨h1, h2⟩ := tyV_is I1 r1 ty
  exact ⟨T, id, pa, slot, hty, h1, h2, Calls.callWith_builtin rfl (PySem.evalArgs_none (hm pins s1 σ H1 x [] v [] Q I1 r1 .nil q1))⟩
theorem pe_bm (pa : PlainAttrs T) (slot : Slot T name id) (hty : typeOf (.builtin id) = pure (.type "method_descriptor")) (hm : MtR X id r) (ho : PE X o to) (ha : PA X (e :: es) t)
    (hbase : attributeBase o name X.env (eval o X.env) = eval o X.env := by rfl)
    (hfew : ((backTo cpos (starEach (e :: es) X.env)).all (fun x => !x.1) && (backToKw cpos (keywordEach [] X.env)).all (fun x => x.1.isSome)
      && decide ((e :: es).length + ([] : List Keyword).length + (if ([] : List Keyword).isEmpty then 0 else 1) < 30)) = true := by rfl)
    (hline : (apos.endLine == cpos.line) = true := by rfl) (hs : starEach (e :: es) X.env = (false, eval e X.env) :: starEach es X.env := by rfl) (hplain : (backTo cpos (starEach es X.env)).any (·.1) = false := by rfl) :
    PE X (.Call (.Attribute o name apos) (e :: es) [] cpos) (tBM X.K T r to t) := by
  intro pins s σ H Q I h
  refine wpAny_Call_method_late hbase hfew hline rfl (thn (ho pins s σ H _ I h) fun v s1 ⟨x, H1, I1, r1, ty, q1⟩ => ?_)
  obtain ⟨h1, h2⟩ := tyV_is I1 r1 ty
  refine ⟨T, id, pa, slot, hty, h1, h2, ?_⟩
  have hA := ha cpos pins s1 σ H1 _ I1 q1
  rw [hs] at hA ⊢
  refine Calls.callWith_builtin (by show (false || (backTo cpos (starEach es X.env)).any (·.1)) = false; rw [hplain] <;> rfl) (Calls.evalArgs_plain ?_)
  exact thn hA fun us s2 ⟨vs, H2, I2, r2, q2⟩ => hm pins s2 σ H2 x vs v us Q I2 r1 r2 q2
/- xs.append(e), list.index on a module's tuple .. are MtR facts of 06m -/
end
end L2

namespace L2
open PySem PySem.Spec PyProof.Rows

def MtM (X : Cx) (id : String) (r : V → List V → Hp → VK → Prop) : Prop :=
  ∀ (pins : List (Addr × Obj)) (s : Shared) (σ : St) (H : Hp) (x : V) (xs : List V) (v : Value) (us : List Value) (Q : VK), Inv X pins σ H s → RelV x v → Vals xs us → r x xs H Q →
    wpAny (model X.prog X.w) X.A (call (.builtin id) (v :: us)) (EP X pins σ Q) X.xe s

/-! ### lists of values -/
theorem Vals.one : ∀ {x : V} {us : List Value}, Vals [x] us → ∃ u, us = [u] ∧ RelV x u
  | _, _, .cons r .nil => ⟨_, rfl, r⟩
theorem Vals.zero : ∀ {us : List Value}, Vals [] us → us = []
  | _, .nil => rfl
theorem Vals.rep {xs : List V} {us : List Value} (h : Vals xs us) : ∀ k : Nat, Vals (List.replicate k xs).flatten (List.replicate k us).flatten
  | 0 => .nil
  | k + 1 => by
    rw [List.replicate_succ, List.replicate_succ, List.flatten_cons, List.flatten_cons]
    exact Vals.append h (Vals.rep h k)
theorem foldl_rep (its : List Value) : ∀ (k : Nat) (acc : List Value),
    List.foldl (fun x1 x2 => x1 ++ x2) acc.toArray (List.replicate k its.toArray) = (acc ++ (List.replicate k its).flatten).toArray
  | 0, acc => by simp
  | k + 1, acc => by
    have e : acc.toArray ++ its.toArray = (acc ++ its).toArray := by simp
    have e2 : (acc ++ its) ++ (List.replicate k its).flatten = acc ++ (List.replicate (k + 1) its).flatten := by
      rw [List.replicate_succ, List.flatten_cons, List.append_assoc]
    rw [← e2, ← foldl_rep its k (acc ++ its), ← e, List.replicate_succ, List.foldl_cons]

section
variable {X : Cx} {pins : List (Addr × Obj)} {σ : St} {H : Hp} {s : Shared} {l b : Addr} {xs ys zs : List V}

/-! ### the two steps: a tracked list is rewritten, a new list is laid -/
theorem Inv.lset {its its' : List Value} {n : Nat} {f : Array Value → Array Value} {t' : Nat} (I : Inv X pins σ H s) (hH : H l = some (.lst xs))
    (e : s.heap.get? l = some { cls := .type "list", data := .seq its.toArray n }) (hf : f its.toArray = its'.toArray) (hv : Vals ys its') (hz : ys.length ≤ sizeLine) :
    Inv X pins σ (upd H l (.lst ys)) { s with heap := s.heap.update l (Obj.mapSeq f), toks := t' } := by
  have q := PySem.IsL.update e f
  rw [hf] at q
  refine I.write (x := l) (e := l) (by rw [hH]; exact trivial) (.inl rfl) (fun b' u hb hu => (Heap.get?_update_other s.heap (Obj.mapSeq f) (Ne.symm hb)).trans hu) ⟨_, q⟩ ?_
  exact ⟨hz, its', _, hv, q⟩
theorem Inv.lnew {its : List Value} {t' : Nat} (I : Inv X pins σ H s) (hv : Vals ys its) (hz : ys.length ≤ sizeLine) :
    Inv X pins σ (upd H s.heap.objs.size (.lst ys)) { s with heap := s.heap.push { cls := .type "list", data := .seq its.toArray }, toks := t' } :=
  I.laid (fun _ _ q => Heap.get?_push_of_some _ q) (Nat.le_refl _) ⟨hz, its, 0, hv, Heap.get?_push_size _ rfl⟩
theorem Inv.fresh (I : Inv X pins σ H s) : H s.heap.objs.size = none := I.hok.fresh (Nat.le_refl _)
theorem Inv.lstM (I : Inv X pins σ H s) (hH : H l = some (.lst xs)) : xs.length ≤ sizeLine ∧ ∃ (its : List Value) (n : Nat), Vals xs its ∧ xs.length = its.length ∧ s.heap.get? l = some { cls := .type "list", data := .seq its.toArray n } := by
  obtain ⟨z, its, n, r, e⟩ := I.hok l _ hH
  exact ⟨z, its, n, r, r.length, e⟩

theorem notLongL {n : Nat} (h : n ≤ sizeLine) : Builtin.List.listTooLong n = false := by
  unfold Builtin.List.listTooLong
  exact decide_eq_false (by omega)
end

section
variable {X : Cx}

/-! ### methods -/
def rAppend : V → List V → Hp → VK → Prop := fun x vs H Q => ∃ l xs y, x = .ref l ∧ vs = [y] ∧ H l = some (.lst xs) ∧ xs.length < sizeLine ∧ Q .non (upd H l (.lst (xs ++ [y])))
theorem mt_append : MtM X "list.append" rAppend := by
  intro pins s σ H x vs v us Q I rx rv h
  obtain ⟨l, xs, y, rfl, rfl, hH, hz, q⟩ := h
  cases rx
  obtain ⟨u, rfl, ru⟩ := rv.one
  obtain ⟨z, its, n, r, hl, e⟩ := I.lstM hH
  refine call_meets F.slot_list_append ⟨_, e, rfl⟩ F.entry_list_append (F.args_list_append_2 _ _) (PySem.list_append l its.toArray n u (by rw [List.size_toArray]; omega)) ⟨e, ?_⟩
  refine ⟨.non, _, I.lset (its' := its ++ [u]) hH e (by simp) (r.append (.cons ru .nil)) ?_, rfl, q⟩
  rw [List.length_append, List.length_singleton]
  omega

def rExtend : V → List V → Hp → VK → Prop := fun x vs H Q => ∃ l b xs zs, x = .ref l ∧ vs = [.ref b] ∧ H l = some (.lst xs) ∧ H b = some (.lst zs) ∧ xs.length + zs.length ≤ sizeLine ∧ Q .non (upd H l (.lst (xs ++ zs)))
def rPop : V → List V → Hp → VK → Prop := fun x vs H Q => ∃ l xs y, x = .ref l ∧ vs = [] ∧ H l = some (.lst xs) ∧ xs[xs.length - 1]? = some y ∧ Q y (upd H l (.lst xs.dropLast))
def rPopAt : V → List V → Hp → VK → Prop := fun x vs H Q => ∃ l xs i k y, x = .ref l ∧ vs = [.int i] ∧ H l = some (.lst xs) ∧ -(2 ^ 63) ≤ i ∧ i < 2 ^ 63 ∧ seqIndex? i xs.length = some k ∧ xs[k]? = some y ∧ Q y (upd H l (.lst (xs.eraseIdx k)))
def rReverse : V → List V → Hp → VK → Prop := fun x vs H Q => ∃ l xs, x = .ref l ∧ vs = [] ∧ H l = some (.lst xs) ∧ Q .non (upd H l (.lst xs.reverse))
def rClear : V → List V → Hp → VK → Prop := fun x vs H Q => ∃ l xs, x = .ref l ∧ vs = [] ∧ H l = some (.lst xs) ∧ Q .non (upd H l (.lst []))
theorem mt_clear : MtM X "list.clear" rClear := by
  intro pins s σ H x vs v us Q I rx rv h
  obtain ⟨l, xs, rfl, rfl, hH, q⟩ := h
  cases rx
  have hus := rv.zero
  subst hus
  obtain ⟨z, its, n, r, hl, e⟩ := I.lstM hH
  refine call_meets F.slot_list_clear ⟨_, e, rfl⟩ F.entry_list_clear (F.args_list_clear_1 _) (AutoSeq1.list_clear_list_0 l its.toArray n (by rw [List.size_toArray]; omega)) ⟨e, ?_⟩
  exact ⟨.non, _, I.lset (its' := []) (ys := []) hH e rfl .nil (Nat.zero_le _), rfl, q⟩

/-! ### list + list, list += list, list * int -/
def rCat : R2 := fun x y H Q => ∃ l b xs zs, x = .ref l ∧ y = .ref b ∧ H l = some (.lst xs) ∧ H b = some (.lst zs) ∧ xs.length + zs.length ≤ sizeLine ∧ ∀ p, H p = none → Q (.ref p) (upd H p (.lst (xs ++ zs)))
theorem op_cat : OpR X (binaryOp .Add) rCat := by
  intro pins s σ H x y v u Q I rx ry h
  obtain ⟨l, b, xs, zs, rfl, rfl, hH, hB, hz, q⟩ := h
  cases rx
  cases ry
  obtain ⟨z, its, n, r, hl, e⟩ := I.lstM hH
  obtain ⟨z2, its2, n2, r2, hl2, e2⟩ := I.lstM hB
  refine PySem.P.add_list e e2 ?_ (by rw [List.size_toArray, List.size_toArray]; omega)
  have ea : its.toArray ++ its2.toArray = (its ++ its2).toArray := by simp
  rw [ea]
  exact ⟨.ref _, _, I.lnew (t' := s.toks) (r.append r2) (by rw [List.length_append]; omega), rfl, q _ I.fresh⟩
/-- a list times an int (a negative one is nothing) -/
def rRep : R2 := fun x y H Q => ∃ l k xs, x = .ref l ∧ y = .int k ∧ H l = some (.lst xs) ∧ -(2 ^ 63) ≤ k ∧ k < 2 ^ 63 ∧ xs.length * k.toNat ≤ sizeLine ∧
  ∀ p, H p = none → Q (.ref p) (upd H p (.lst (List.replicate k.toNat xs).flatten))
theorem len_rep {α : Type} (xs : List α) (k : Nat) : (List.replicate k xs).flatten.length = k * xs.length := by
  induction k with
  | zero => simp
  | succ k ih => rw [List.replicate_succ, List.flatten_cons, List.length_append, ih, Nat.succ_mul, Nat.add_comm]
theorem op_rep : OpR X (binaryOp .Mult) rRep := by
  intro pins s σ H x y v u Q I rx ry h
  obtain ⟨l, k, xs, rfl, rfl, hH, h1, h2, hz, q⟩ := h
  cases rx
  obtain ⟨t, rfl⟩ := ry
  obtain ⟨z, its, n, r, hl, e⟩ := I.lstM hH
  have hlen : its.toArray.size * k.toNat ≤ sizeLine := by rw [List.size_toArray, ← hl]; exact hz
  have hcap : ¬ its.toArray.size * k.toNat > (2 ^ 63 - 1) / 8 := by
    have : (sizeLine : Nat) ≤ (2 ^ 63 - 1) / 8 := by decide
    omega
  have hfit : ¬ (!Builtin.List.listFitsIndex k) = true := by
    rw [fitsIndex_both h1 h2]
    exact Bool.false_ne_true
  have hlong : ¬ Builtin.List.listTooLong (its.toArray.size * k.toNat) = true := by
    rw [notLongL hlen]
    exact Bool.false_ne_true
  have hnew : List.foldl (fun x1 x2 => x1 ++ x2) #[] (List.replicate (if its.toArray.isEmpty = true then 0 else k.toNat) its.toArray) = (List.replicate k.toNat its).flatten.toArray := by
    have f0 : ∀ m : Nat, List.foldl (fun x1 x2 => x1 ++ x2) #[] (List.replicate m its.toArray) = (List.replicate m its).flatten.toArray := fun m => by
      have := foldl_rep its m []
      rw [List.nil_append] at this
      exact this
    rw [f0]
    cases its with
    | nil => simp
    | cons a r' => rw [if_neg (by simp)]
  refine wpAny_binaryOp_repeat_ref (T := "list") (U := "int") (by decide) ⟨_, e, rfl⟩ (fun s' => typeIs_int s' k t) noFill_list_mul F.fills_int_mul F.slot_int_rmul repeat_list F.slot_int_index.lookup
    (call_meets F.slot_int_rmul (typeIs_int s k t) F.entry_int_rmul (F.args_int_rmul_2 _ _) (int___rmul___int_list k t l its.toArray n)
      ⟨e, rfl, ⟨_, e, rfl⟩, call_meets F.slot_list_mul ⟨_, e, rfl⟩ F.entry_list_mul (F.args_list_mul_2 _ _) (AutoListH.list___mul___list_int_3 l its.toArray n k t hfit hcap hlong) ⟨e, ?_⟩⟩)
  rw [hnew]
  exact ⟨.ref _, _, I.lnew (t' := s.toks) (r.rep k.toNat) (by rw [len_rep, Nat.mul_comm]; exact hz), rfl, q _ I.fresh⟩

/-! ### del xs[i] -/
end

/-! ### xs[a:b] = ys -/
section
variable {prog : Program} {w : World} {A : Around} {E : Value → Shared → Prop} {s : Shared}
set_option maxRecDepth 100000 in
end

section
variable {X : Cx}
end
end L2

namespace Att
open PySem PySem.W PySem.Calls PyProof.Rows

/-! ### the script -/
theorem ints_of_wellAll {P : Params} {h : Heap} : ∀ (ns : List Int) (vs : List Value), WellAll P h vs (ns.map WData.int) → IntsAre vs ns := by
  intro ns
  induction ns with
  | nil =>
    intro vs w
    rw [List.map_nil] at w
    cases w
    exact .nil
  | cons n ns ih =>
    intro vs w
    rw [List.map_cons] at w
    cases w with
    | cons a b =>
      cases a
      exact .cons _ _ (ih _ b)

theorem script_of {l : OpenLaw} {n : Nat} (hn : l.most = some n) {P : Params} {h : Heap} {args : List WData} {vals : List Value}
    (hpre : l.row.toRowW.claim.pre args = true) (hwl : WellAll P h vals args) :
    ∃ a vs ns, vals = [Value.ref a] ∧ args = [WData.list (ns.map WData.int)] ∧ h.get? a = some { cls := .type "list", data := .seq vs.toArray } ∧ IntsAre vs ns ∧ ns.length ≤ n := by
  have hsh : WShape.hasAll [] args [.list .int] = true := (pre_splitW hpre).1
  have hc : l.pre.holds [] { args := args } = true := (pre_splitW hpre).2
  obtain ⟨d, r, rfl, h1, h2⟩ := hasAllW_cons hsh
  obtain rfl := hasAllW_nil h2
  obtain ⟨xs, rfl, h3⟩ := hasW_list h1
  obtain ⟨ns, rfl⟩ := items_int h3
  have hlen : ns.length ≤ n := by
    unfold OpenLaw.pre at hc
    have h4 : (WTm.not (.lt (.lit (.int (n : Int))) (.len (.arg 0)))).holds [] { args := [.list (ns.map .int)] } = true := by
      have h4 := (holds_andW hc).1
      rw [hn] at h4
      exact h4
    have h5 := condW_of h4 (w_not (w_lt w_lit (w_len_list (w_arg rfl))))
    rw [List.length_map] at h5
    refine Nat.le_of_not_lt fun q => ?_
    have q' : (n : Int) < ((ns.length : Nat) : Int) := by omega
    first
      | (rw [decide_eq_true q'] at h5; exact absurd h5 (by decide))
      | (simp at h5; omega)
  cases hwl with
  | cons w1 w2 =>
    cases w2
    cases w1 with
    | list ho hall => exact ⟨_, _, ns, rfl, rfl, ho, ints_of_wellAll ns _ hall, hlen⟩

theorem post_true (l : OpenLaw) (args : List WData) : l.row.toRowW.claim.post args (.bool true) args = true :=
  postW_of (r := l.row.toRowW) (X := (true == true))
    (show WShape.has [] (.bool true) .bool = true by first | rfl | decide | simp [WShape.has, WShape.arms, WShape.armsAll])
    (show (WTm.eq .res (.lit (.bool true))).value [] { args := args, res := some (.bool true), after := args } = some (.bool (true == true)) from w_eq_bool (w_res rfl) w_lit) rfl

/-! ### the attachment: holds_open's last premise (the goal 'hc' behind k_head) from a wpAny of the law's body -/
/-- the same from a codeAny of the CALL (for a layer whose function contracts speak of calls) -/
theorem attach_call {l : OpenLaw} {n : Nat} {q : Program} {loose : List Str} {XP : (Str → Option Value) → Heap → Prop} {YP : World → Heap → Prop} {d : DefRec}
    (hn : l.most = some n) (hdf : d.params.defaults = [])
    (call : ∀ (w : World) (s₀ s₁ : Shared) (mg mb : Str → Option Value) (fa : Addr) (o : Obj) (pm cd doc : Value) (a : Addr) (vs : List Value) (ns : List Int),
      Ground q loose [] XP w s₀ mg mb s₁.heap → YP w s₁.heap →
      s₁.heap.get? fa = some o → o.data = .func (docDef d.name d.params d.body d.scope pm cd doc) → s₁.heap.CodeRec cd d.name → mg d.name = some (.ref fa) →
      s₁.heap.get? a = some { cls := .type "list", data := .seq vs.toArray } → IntsAre vs ns → ns.length ≤ n → s₁.gens = #[] →
      codeAny (model l.prog w) callerA (.call (.ref fa) ⟨[.ref a], []⟩) (fun r s' => r = .ok (.ret (.bool true)) ∧ OldK s₁.heap s'.heap ∧ s'.os = s₁.os ∧ AllBare s'.gens) s₁) :
    WalkO q loose XP YP l.row.toRowW d [] (fun f vs => PySem.call f vs) := by
  intro w s₀ s₁ mg mb G Y fa o pm cd doc dV kV ho hd hcd hD hmg hg args vals as hpre hlay hrd hwl hlo
  obtain rfl : dV = .none := Dflts.none hD hdf
  obtain rfl : kV = .none := Dflts.noKw hD
  obtain ⟨a, vs, ns, rfl, rfl, hobj, hints, hlen⟩ := script_of hn hpre hwl
  refine enter_call (codeAny_mono (call w s₀ s₁ mg mb fa o pm cd doc a vs ns G Y ho (fd_plain hd) hcd hmg hobj hints hlen hg) fun r s' hq => ?_)
  obtain ⟨rfl, h2, h3, h4⟩ := hq
  exact ⟨.inl ⟨.bool true, .bool true, [], rfl, fun _ => rfl, .bool true, post_true l _, fun _ => ⟨List.Pairwise.nil, fun _ hm => (nomatch hm)⟩⟩, h2, h3, h4⟩

/-! ### rules over ANY heap (no ledger) from facts about the written part K: the library's own take a ledger (News) for what they write -/
section
variable {prog : Program} {w : World} {A : Around} {E : Value → Shared → Prop} {s : Shared} {K : Frag}

/-! the whole heap as the ledger: makes every rule that writes through a ledger a rule over any heap -/
def noObjs (h : Heap) : Heap := { h with objs := #[] }
def ledger (h : Heap) (L d : Addr) : List (Addr × Obj) := (List.range h.objs.size).filterMap fun a => if a = L ∨ a = d then none else (h.get? a).map fun o => (a, o)
end
end Att

namespace L2
open PySem PySem.Spec PyProof.Rows

theorem vals_ints : ∀ {vs : List Value} {ns : List Int}, IntsAre vs ns → Vals (ns.map V.int) vs
  | _, _, .nil => .nil
  | _, _, .cons n t h => .cons ⟨t, rfl⟩ (vals_ints h)

/-- nothing is tracked but the script, known to the object (or it is an object of the module) -/
def Only (H : Hp) : Prop := ∀ b, H b = none ∨ ∃ o xs, H b = some (.frz o (.lst xs))

/-- THE HEAD: the law's promise, at the heap behind the top. F, the promise of the law's def, may use that base is part of the heap (so K.In base, base.Ns mainGlobals mg stand in Mod) -/
theorem law_call {P : Program} {w : World} {K : PySem.W.Frag} {mg mb : Str → Option Value} {CX : CXT} {k : Nat} {fa a : Addr} {fd : FuncData} {x : Str} {sp : Sp} {s₁ : Shared} {vs : List Value} {ns : List Int}
    (KX : K.In s₁.heap) (hns : s₁.heap.Ns mainGlobals mg) (hb : s₁.heap.Ns builtinsNs mb) (hbb : ∀ x : Str, x ≠ "__name__" → mb x = bootBuiltins x) (hlim : s₁.heap.NoLimit) (hg : s₁.gens = #[])
    (ha : s₁.heap.get? a = some { cls := .type "list", data := .seq vs.toArray }) (hi : IntsAre vs ns) (hl : ns.length ≤ sizeLine) (hr : Room k callerA)
    (F : ∀ base : Heap, K.In base → base.Ns mainGlobals mg → FnOk P w K mg base CX k fa fd [x] sp) (hbind : ∀ (s : Shared) (u : Value), BindsTo s fd ⟨[u], []⟩ [(x, u)])
    (hsp : ∀ H : Hp, Only H → SqL K H a (ns.map V.int) → sp [.ref a] H (fun v _ => v = .bl true) fun _ _ _ => False)
    (hCX : ∀ H e s', CX [] H s₁ (fun _ _ _ => False) e s' → False) :
    codeAny (model P w) callerA (.call (.ref fa) ⟨[.ref a], []⟩) (fun r s' => r = .ok (.ret (.bool true)) ∧ OldK s₁.heap s'.heap ∧ s'.os = s₁.os ∧ AllBare s'.gens) s₁ := by
  have rv := vals_ints hi
  have lenV := hi.length
  -- from an abstract heap in which nothing but the script may be tracked
  have core : ∀ H : Hp, Only H → SqL K H a (ns.map V.int) → HOk P w H s₁.heap → (∀ b, H b ≠ none → b = a) → (H a ≠ none → K.lookup a = none) →
      codeAny (model P w) callerA (.call (.ref fa) ⟨[.ref a], []⟩) (fun r s' => r = .ok (.ret (.bool true)) ∧ OldK s₁.heap s'.heap ∧ s'.os = s₁.os ∧ AllBare s'.gens) s₁ := by
    intro H hO hS hok hA hK
    have base_of : ∀ {b : Addr} {o : Obj}, s₁.heap.get? b = some o → H b = none → (hidT s₁.heap H).get? b = some o := fun e n => hidT_get e n
    have noA : ∀ {b : Addr} {o : Obj} {es : Array DictEntry} {ep : Nat}, s₁.heap.get? b = some o → o.data = .dict es ep → H b = none := fun {b o es ep} e d => by
      cases q : H b with
      | none => rfl
      | some u =>
        have e' : b = a := hA b (by rw [q]; simp)
        subst e'
        rw [ha] at e; cases e
        have d' : Data.seq vs.toArray _ = Data.dict es ep := d
        cases d'
    have nsK : ∀ {b : Addr} {m : Str → Option Value}, s₁.heap.Ns b m → (hidT s₁.heap H).Ns b m := fun {b m} ⟨o, es, ep, e, d, r⟩ => ⟨o, es, ep, base_of e (noA e d), d, r⟩
    have hKb : K.In (hidT s₁.heap H) := fun b o e => base_of (KX b o e) (by
      cases q : H b with
      | none => rfl
      | some u =>
        have e' : b = a := hA b (by rw [q]; simp)
        subst e'
        rw [hK (by rw [q]; simp)] at e; cases e)
    have hM : Mod K mg (hidT s₁.heap H) := ⟨hKb, nsK hns, ⟨mb, nsK hb, hbb⟩, let ⟨mc, h1, h2⟩ := hlim; ⟨mc, nsK h1, h2⟩⟩
    have e0 : Env0 P w K mg (hidT s₁.heap H) callerA [] s₁ H := ⟨rfl, hM, fun b o e => of_hidT e, Nat.le_of_eq (hidT_size _ _), trivial, fun b hb => absurd (show b ∈ ([] : List Addr) from hb) (by simp), hok, .of_eq hg⟩
    refine codeAny_mono ((F _ hKb (nsK hns)).run callerA [] s₁ H ⟨[.ref a], []⟩ [.ref a] [.ref a] _ _ hr e0 (hbind s₁ (.ref a)) (.cons rfl .nil) (hsp H hO hS)) fun r s' h => ?_
    cases r with
    | error e => exact (hCX H e s' h).elim
    | ok fl =>
      cases fl with
      | next => exact False.elim h
      | brk => exact False.elim h
      | cont => exact False.elim h
      | ret u =>
        obtain ⟨v, H', os, bare, un, hok', r', q⟩ := h
        have q' : v = .bl true := q
        subst q'
        obtain rfl : u = Value.bool true := r'
        refine ⟨rfl, OldK.of_keep fun b o e => ?_, os, bare⟩
        cases q : H b with
        | none => exact un.keep b o e q (by intro z; exact absurd (show b ∈ ([] : List Addr) from z) (by simp)) (by simp)
        | some u =>
          rcases hO b with z | ⟨ob, xs, z⟩
          · rw [q] at z; cases z
          · have z2 := un.frzs b ob _ z
            obtain ⟨e1, _⟩ := hok b _ z
            obtain ⟨e2, _⟩ := hok' b _ z2
            rw [e] at e1; cases e1
            exact e2
  cases hk : K.lookup a with
  | some o =>
    -- the script is one of the module's own objects
    have e := KX a o hk
    rw [ha] at e
    cases e
    refine core (fun _ => none) (fun _ => .inl rfl) (.inr ⟨_, vs.toArray, _, hk, rfl, rfl, rfl, by rw [List.size_toArray, lenV]; exact hl, by simpa using rv⟩) (fun b u z => by have z' : (none : Option HO) = some u := z; cases z') (fun b z => absurd rfl z) fun z => absurd rfl z
  | none =>
    refine core (fun b => if b = a then some (.frz { cls := .type "list", data := .seq vs.toArray } (.lst (ns.map V.int))) else none) (fun b => ?_) (.inl (.inr ⟨{ cls := .type "list", data := .seq vs.toArray }, if_pos rfl⟩)) (fun b u z => ?_) (fun b z => ?_) fun _ => hk
    · by_cases hb : b = a
      · exact .inr ⟨_, _, if_pos hb⟩
      · exact .inl (if_neg hb)
    · by_cases hb : b = a
      · have z' := (if_pos hb).symm.trans z
        cases z'
        subst hb
        exact ⟨ha, by rw [List.length_map]; exact hl, vs, _, rv, ha⟩
      · have z' := (if_neg hb).symm.trans z
        cases z'
    · by_cases hb : b = a
      · exact hb
      · exact absurd (if_neg hb) z
end L2

namespace L2
open PySem PySem.Spec PyProof.Rows

abbrev KOf {K : PySem.W.Frag} {h : Heap} (_ : K.In h) : PySem.W.Frag := K

/-- the goal that k_head leaves (case hc), from the law's promise. F gives the function object fd (K's own) once, then the promise over every base -/
theorem walk_of {l : PySem.W.OpenLaw} {n k : Nat} {q : Program} {loose : List Str} {XP : (Str → Option Value) → Heap → Prop} {YP : World → Heap → Prop} {d : DefRec} {K : Params → PySem.W.Frag} {CX : World → CXT} {sp : World → Sp} {x : Str}
    (hn : l.most = some n) (hn2 : n ≤ sizeLine) (hdf : d.params.defaults = []) (hr : Room k callerA)
    (hY : ∀ (w : World) (h : Heap), YP w h → (K w.params).In h)
    (F : ∀ (w : World) (mg : Str → Option Value) (fa : Addr) (h : Heap), (K w.params).In h → h.Ns mainGlobals mg → mg d.name = some (.ref fa) →
      ∃ fd : FuncData, (∀ (s : Shared) (u : Value), BindsTo s fd ⟨[u], []⟩ [(x, u)]) ∧
        ∀ base : Heap, (K w.params).In base → base.Ns mainGlobals mg → FnOk l.prog w (K w.params) mg base (CX w) k fa fd [x] (sp w))
    (hsp : ∀ (w : World) (H : Hp) (a : Addr) (ns : List Int), ns.length ≤ n → Only H → SqL (K w.params) H a (ns.map V.int) → sp w [.ref a] H (fun v _ => v = .bl true) fun _ _ _ => False)
    (hCX : ∀ (w : World) (H : Hp) (s : Shared) (e : Value) (s' : Shared), CX w [] H s (fun _ _ _ => False) e s' → False) :
    PySem.W.WalkO q loose XP YP l.row.toRowW d [] (fun f vs => PySem.call f vs) := by
  refine Att.attach_call hn hdf fun w s₀ s₁ mg mb fa o pm cd doc a vs ns G Y ho hd hcd hmg hobj hints hlen hg => ?_
  have KX := hY w _ Y
  obtain ⟨fd, hb, hF⟩ := F w mg fa _ KX G.T.g hmg
  exact law_call KX G.T.g G.T.b G.T.builtins G.T.nolimit hg hobj hints (Nat.le_trans hlen hn2) hr hF hb (fun H hO hS => hsp w H a ns hlen hO hS) fun H e s' => hCX w H s₁ e s'
end L2

/- THE LAST THEOREM (shape; LID, My.* are yours):
   My.Adr: a structure of the addresses that your layer names (classes, functions); My.Txt K t: a structure (Prop) of the equations over K;
   My.txt_mk : {K} {implicit addresses ..} (e1 : nsIn K mainGlobals "law" = some (some (.ref f))) (e2 : K.lookup f = some ⟨oc, od, .func (fnOf "law" "law" params body scope dV kV doc pm an cdv ct), sl⟩) (e3 : codeIn K cdv "law" = true) .. : ∃ t, My.Txt K t

set_option maxRecDepth 100000 in
set_option maxHeartbeats 0 in
theorem PySem.Challenge.cw_LID_holds : PySem.Challenge.rw_LID.Holds := by
  w_on; o_law; k_head; (case hw => w_witness2)
  k_fill
  refine L2.walk_of (l := PySem.Challenge.rw_LID) (n := 63) (k := 40) (x := "script") (CX := fun w => ..) (sp := fun _ => My.sp_law) rfl (by decide) rfl ⟨rfl, by decide, by decide⟩ (fun w h Y => PySem.W.kIn_of Y) ?F ?S ?C
  case F =>
    intro w mg fa h KX G hmg
    have T : ∃ t, My.Txt (L2.KOf KX) t := by
      dsimp only [L2.KOf]                          -- K must stand as «<heap const> w.params» for k_is
      refine' My.txt_mk ?e1 ?e2 ?e3 ..
      (case e1 => PySem.W.k_is)                    -- in the order: a name -> its address -> its object -> its parts
      (case e2 => PySem.W.k_is)
      ..
    obtain ⟨t, T⟩ := T
    have e0 := hmg.symm.trans (PySem.W.mg_of KX G T.law)
    cases e0                                       -- fa is the law's own address
    exact ⟨_, fun s u => .of_eq rfl, fun base kb nb => My.law_fn T kb nb⟩     -- if «.of_eq rfl» comes too early: refine' ⟨_, ?b, fun base kb nb => My.law_fn T kb nb⟩; exact fun s u => .of_eq rfl
  case S => exact fun w H a ns hl hO hS => ..
  case C => exact ..
(the tactic k_is has no namespace: write k_is) -/

/-! SHORT WORDS over the layer: a def of the text, its body, what a loop and a test want. -/
namespace L2
open PySem PySem.Spec PyProof.Rows

/-! ### the text by places -/
/-- the j-th statement of a class's body -/
def inClass (s : Stmt) (j : Nat) : Stmt := match s with
  | .ClassDef _ _ _ body _ _ _ _ _ _ _ => body.getD j (.Pass ⟨0, 0, 0, 0⟩)
  | _ => .Pass ⟨0, 0, 0, 0⟩
def defArgs (s : Stmt) : Arguments := match s with
  | .FunctionDef _ a _ _ _ _ _ _ _ _ => a
  | _ => { posonlyargs := [], args := [], vararg := none, kwonlyargs := [], kw_defaults := [], kwarg := none, defaults := [] }
def defBody (s : Stmt) : List Stmt := match s with
  | .FunctionDef _ _ b _ _ _ _ _ _ _ => b
  | _ => []
def defScope (s : Stmt) : Scope := match s with
  | .FunctionDef _ _ _ _ _ _ sc _ _ _ => sc
  | _ => { kind := .function, names := [], isGenerator := false, isCoroutine := false }

/-! ### no exception leaves a def -/
abbrev CX0 : CXT := fun _ _ _ _ _ _ => False
abbrev E0 : XK := fun _ _ _ => False
theorem pass0 {X : Cx} : Passes CX0 X E0 := fun _ _ _ _ _ _ _ h => h.elim

/-! ### a def (or method) of the text as it stands behind the top -/
structure Fun (K : PySem.W.Frag) (x qual : Str) (st : Stmt) (f : Addr) (fd : FuncData) : Prop where
  ex : ∃ (oc : Value) (od : Option Addr) (kV doc pm : Value) (an : Option Addr) (cdv ct : Value) (osl : Array (Option Value)),
    fd = PySem.W.fnOf x qual (defArgs st) (defBody st) (defScope st) .none kV doc pm an cdv ct ∧ K.lookup f = some ⟨oc, od, .func fd, osl⟩ ∧ PySem.W.codeIn K cdv qual = true
  kp : PySem.W.keepIn K (.ref f) = true
section
variable {P : Program} {w : World} {K : PySem.W.Frag} {mg : Str → Option Value} {base : Heap}
/-- THE RULE for a def: its body as a term of rules, and the reading of that term -/
theorem Fun.ok {x qual : Str} {st : Stmt} {f : Addr} {fd : FuncData} {N ps : List Str} {k : Nat} {sp : Sp} (F : Fun K x qual st f fd) (S : FnScope N ps (defScope st)) (len : ∀ vs H Q E, sp vs H Q E → vs.length = ps.length)
    (hbody : ∀ (cdv : Value) (A : Around) (outer : List Env) (s : Shared) (H : Hp) (vs : List V) (Q : VK) (E : XK), Room k (A.deeper (envOfC qual (defScope st) s.heap.objs.size f cdv)) → sp vs H Q E →
      ∃ t, PSs (cxOf CX0 P w K mg base N qual (defScope st) f cdv A outer s H E).nox (defBody st) t ∧ t { nx := fun _ H' => Q .non H', rt := Q } (start N vs) H) : FnOk P w K mg base CX0 (k + 1) f fd ps sp := by
  obtain ⟨oc, od, kV, doc, pm, an, cdv, ct, osl, rfl, lk, hcd⟩ := F.ex
  refine fn_of lk hcd S len fun A outer s H vs Q E hr hsp => ?_
  obtain ⟨t, h, q⟩ := hbody cdv A outer s H vs Q E hr hsp
  exact ⟨t, h.nox, q⟩
/-- how its arguments bind (no defaults): h is «fun _ _ _ _ _ _ us hl => match us, hl with | [_, _], _ => rfl», one _ a parameter -/
theorem Fun.binds {x qual : Str} {st : Stmt} {f : Addr} {fd : FuncData} {ps : List Str} (F : Fun K x qual st f fd)
    (h : ∀ (kV doc pm : Value) (an : Option Addr) (cdv ct : Value) (us : List Value), us.length = ps.length → bindArgs (PySem.W.fnOf x qual (defArgs st) (defBody st) (defScope st) .none kV doc pm an cdv ct) ⟨us, []⟩ = pure (ps.zip us)) : Binds K fd ps [] := by
  obtain ⟨oc, od, kV, doc, pm, an, cdv, ct, osl, rfl, lk, hcd⟩ := F.ex
  exact .all (h kV doc pm an cdv ct)
theorem fun_mk {x qual : Str} {st : Stmt} {f : Addr} {oc : Value} {od an : Option Addr} {osl : Array (Option Value)} {kV doc pm cdv ct : Value} (l : K.lookup f = some ⟨oc, od, .func (PySem.W.fnOf x qual (defArgs st) (defBody st) (defScope st) .none kV doc pm an cdv ct), osl⟩)
    (c : PySem.W.codeIn K cdv qual = true) (k : PySem.W.keepIn K (.ref f) = true) : Fun K x qual st f (PySem.W.fnOf x qual (defArgs st) (defBody st) (defScope st) .none kV doc pm an cdv ct) := ⟨⟨oc, od, kV, doc, pm, an, cdv, ct, osl, rfl, l, c⟩, k⟩
end
theorem small1000 {n : Nat} (h : n ≤ 1000) : n < sizeLine := Nat.lt_of_le_of_lt h (by decide)

/-! ### expressions in short: the name that stands in the i-th slot -/
section
variable {X : Cx}
theorem pv (i : Nat) {x : Str} {pos : Pos} (hN : X.N[i]? = some x := by rfl) (hv : Vis X.env.scope x := by first | exact Or.inl rfl | exact Or.inr (Or.inl rfl) | exact Or.inr (Or.inr rfl)) (hd : (x == ("__debug__" : Str)) = false := by decide)
    (hcd : (x == ("__classdict__" : Str)) = false := by decide) : PE X (.Name x pos) (tVar i) := pe_var hN hv hd hcd
end

/-! ### tests -/
theorem iteF {A B : Prop} (h : B) : if false = true then A else B := by
  rw [if_neg Bool.false_ne_true]
  exact h
theorem iteT {A B : Prop} (h : A) : if true = true then A else B := by
  rw [if_pos rfl]
  exact h
theorem ite2 {c A B : Prop} [Decidable c] (h1 : c → A) (h2 : ¬ c → B) : if c then A else B := by
  by_cases h : c
  · rw [if_pos h]
    exact h1 h
  · rw [if_neg h]
    exact h2 h
/-! ### heaps -/
/-- all that was tracked is as it was -/
def Same (H H' : Hp) : Prop := ∀ b o, H b = some o → H' b = some o
theorem Same.refl (H : Hp) : Same H H := fun _ _ h => h
theorem Same.trans {H H1 H2 : Hp} (a : Same H H1) (b : Same H1 H2) : Same H H2 := fun c o h => b c o (a c o h)
theorem Same.seq {K : PySem.W.Frag} {H H' : Hp} {a : Addr} {xs : List V} (e : Same H H') (h : SqL K H a xs) : SqL K H' a xs := by
  rcases h with (h | ⟨o, h⟩) | h
  · exact .inl (.inl (e _ _ h))
  · exact .inl (.inr ⟨o, e _ _ h⟩)
  · exact .inr h

end L2

namespace GM
/-- the greatest common divisor, as an int -/
def G (a b : Int) : Int := (Int.gcd a b : Int)
theorem G_zero {a : Int} (h : 0 ≤ a) : G a 0 = a := by
  unfold G
  rw [Int.gcd_zero_right]
  omega
theorem G_step (a b : Int) : G b (a % b) = G a b := by
  unfold G
  congr 1
  have e : a % b = a - b * (a / b) := by
    have := Int.emod_add_mul_ediv a b
    omega
  rw [e, Int.gcd_sub_mul_left_right, Int.gcd_comm]
theorem G_pos {a b : Int} (h : 0 < b) : 0 < G a b := by
  unfold G
  have : 0 < Int.gcd a b := Int.gcd_pos_of_ne_zero_right a (by omega)
  omega
theorem G_dvd_l (a b : Int) : G a b ∣ a := Int.gcd_dvd_left a b
theorem G_dvd_r (a b : Int) : G a b ∣ b := Int.gcd_dvd_right a b
theorem G_le_r {a b : Int} (h : 0 < b) : G a b ≤ b := Int.le_of_dvd h (G_dvd_r a b)
/-- an amount in lowest terms -/
structure Amt (t b : Int) : Prop where
  t0 : 0 ≤ t
  b1 : 1 ≤ b
  g : G t b = 1
theorem low_amt {t b : Int} (h0 : 0 ≤ t) (h1 : 1 ≤ b) : Amt (t / G t b) (b / G t b) := by
  have gp := G_pos (a := t) (b := b) (by omega)
  refine ⟨Int.ediv_nonneg h0 (by omega), Int.ediv_pos_of_pos_of_dvd (by omega) (by omega) (G_dvd_r t b), ?_⟩
  unfold G at *
  have := Int.gcd_ediv_gcd_ediv_gcd (i := t) (j := b) (by omega)
  omega
end GM

namespace L2
open PySem PySem.Spec PyProof.Rows
/-! ### isinstance against a built-in type -/
inductive Isi (K : PySem.W.Frag) (H : Hp) : V → String → Bool → Prop where
  | int_int {n} : Isi K H (.int n) "int" true
  | int_bool {n} : Isi K H (.int n) "bool" false
  | int_tuple {n} : Isi K H (.int n) "tuple" false
  | int_str {n} : Isi K H (.int n) "str" false
  | int_list {n} : Isi K H (.int n) "list" false
  | bl_int {b} : Isi K H (.bl b) "int" true
  | bl_bool {b} : Isi K H (.bl b) "bool" true
  | bl_tuple {b} : Isi K H (.bl b) "tuple" false
  | bl_str {b} : Isi K H (.bl b) "str" false
  | str_int {x} : Isi K H (.str x) "int" false
  | str_bool {x} : Isi K H (.str x) "bool" false
  | str_tuple {x} : Isi K H (.str x) "tuple" false
  | str_str {x} : Isi K H (.str x) "str" true
  | non_int : Isi K H .non "int" false
  | non_str : Isi K H .non "str" false
  | non_tuple : Isi K H .non "tuple" false
  | tup_tuple {a xs} : SqT K H a xs → Isi K H (.ref a) "tuple" true
  | tup_int {a xs} : SqT K H a xs → Isi K H (.ref a) "int" false
  | tup_str {a xs} : SqT K H a xs → Isi K H (.ref a) "str" false
  | tup_list {a xs} : SqT K H a xs → Isi K H (.ref a) "list" false
  | lst_tuple {a xs} : SqL K H a xs → Isi K H (.ref a) "tuple" false
  | lst_int {a xs} : SqL K H a xs → Isi K H (.ref a) "int" false
  | lst_str {a xs} : SqL K H a xs → Isi K H (.ref a) "str" false
  | lst_list {a xs} : SqL K H a xs → Isi K H (.ref a) "list" true
section
variable {X : Cx}
theorem call_isi : CallR X (.builtin "isinstance") (fun xs H Q => ∃ x T b, xs = [x, .ty T] ∧ Isi X.K H x T b ∧ Q (.bl b) H) := by
  intro pins s σ H xs us Q I r h
  obtain ⟨x, T, b, rfl, hi, q⟩ := h
  obtain ⟨u, w', rfl, rx, ry⟩ := vals2 r
  cases ry
  have f1 : EP X pins σ Q (.bool b) s := ⟨.bl b, H, I, rfl, q⟩
  have f2 : EP X pins σ Q (.bool b) { s with toks := s.toks + 1 } := ⟨.bl b, H, I.tok _, rfl, q⟩
  cases hi with
  | int_int => obtain ⟨t, rfl⟩ := rx; exact IsiPair.int_int f1
  | int_bool => obtain ⟨t, rfl⟩ := rx; exact IsiPair.int_bool f2
  | int_tuple => obtain ⟨t, rfl⟩ := rx; exact IsiPair.int_tuple f2
  | int_str => obtain ⟨t, rfl⟩ := rx; exact IsiPair.int_str f2
  | int_list => obtain ⟨t, rfl⟩ := rx; exact IsiPair.int_list f2
  | bl_int => cases rx; exact IsiPair.bool_int f1
  | bl_bool => cases rx; exact IsiPair.bool_bool f1
  | bl_tuple => cases rx; exact IsiPair.bool_tuple f2
  | bl_str => cases rx; exact IsiPair.bool_str f2
  | str_int => obtain ⟨t, rfl⟩ := rx; exact IsiPair.str_int f2
  | str_bool => obtain ⟨t, rfl⟩ := rx; exact IsiPair.str_bool f2
  | str_tuple => obtain ⟨t, rfl⟩ := rx; exact IsiPair.str_tuple f2
  | str_str => obtain ⟨t, rfl⟩ := rx; exact IsiPair.str_str f1
  | non_int => cases rx; exact IsiPair.NoneType_int f2
  | non_str => cases rx; exact IsiPair.NoneType_str f2
  | non_tuple => cases rx; exact IsiPair.NoneType_tuple f2
  | tup_tuple hq => cases rx; obtain ⟨its, _, ⟨o, e, c, _⟩, _⟩ := I.tuple hq; exact IsiPair.tuple_tuple e c f1
  | tup_int hq => cases rx; obtain ⟨its, _, ⟨o, e, c, _⟩, _⟩ := I.tuple hq; exact IsiPair.tuple_int e c f2
  | tup_str hq => cases rx; obtain ⟨its, _, ⟨o, e, c, _⟩, _⟩ := I.tuple hq; exact IsiPair.tuple_str e c f2
  | tup_list hq => cases rx; obtain ⟨its, _, ⟨o, e, c, _⟩, _⟩ := I.tuple hq; exact IsiPair.tuple_list e c f2
  | lst_tuple hq => cases rx; obtain ⟨its, _, ⟨o, n, e, c, _⟩, _⟩ := I.list hq; exact IsiPair.list_tuple e c f2
  | lst_int hq => cases rx; obtain ⟨its, _, ⟨o, n, e, c, _⟩, _⟩ := I.list hq; exact IsiPair.list_int e c f2
  | lst_str hq => cases rx; obtain ⟨its, _, ⟨o, n, e, c, _⟩, _⟩ := I.list hq; exact IsiPair.list_str e c f2
  | lst_list hq => cases rx; obtain ⟨its, _, ⟨o, n, e, c, _⟩, _⟩ := I.list hq; exact IsiPair.list_list e c f1
/-! ### is, is not of bools -/
theorem op_isnotB : OpR X (compareOp .IsNot) (fun x y H Q => ∃ i j, x = .bl i ∧ y = .bl j ∧ Q (.bl (i != j)) H) := by
  intro pins s σ H x y v u Q I rx ry h
  obtain ⟨i, j, rfl, rfl, q⟩ := h
  cases rx; cases ry
  exact isnot_bool ⟨.bl _, H, I, rfl, q⟩
/-! ### == and != of tuples, at any depth: what the comparison tells -/
inductive DEq (K : PySem.W.Frag) (H : Hp) : Nat → V → V → Bool → Prop where
  | flat {n x y} : flatV x = true → flatV y = true → DEq K H n x y (eqV x y)
  | same {n a} : DEq K H n (.ref a) (.ref a) true
  | tup {n a b xs ys} {e : Nat → Bool} : a ≠ b → SqT K H a xs → SqT K H b ys → (∀ (j : Nat) x y, xs[j]? = some x → ys[j]? = some y → DEq K H n x y (e j)) →
      DEq K H (n + 1) (.ref a) (.ref b) ((List.range (min xs.length ys.length)).all e && xs.length == ys.length)
  | lst {n a b xs ys} {e : Nat → Bool} : a ≠ b → SqL K H a xs → SqL K H b ys → (∀ (j : Nat) x y, xs[j]? = some x → ys[j]? = some y → DEq K H n x y (e j)) →
      DEq K H (n + 1) (.ref a) (.ref b) ((List.range (min xs.length ys.length)).all e && xs.length == ys.length)
theorem tups_at {pins : List (Addr × Obj)} {σ : St} {H : Hp} {s : Shared} (I : Inv X pins σ H s) {A : Around} {a b : Addr} {xs ys : List V} {e : Nat → Bool} (hx : SqT X.K H a xs) (hy : SqT X.K H b ys) (hu : A.units < cLine)
    (hd : ∀ (j : Nat) x y u v, xs[j]? = some x → ys[j]? = some y → RelV x u → RelV y v → SeqAt.EqAt A.in1 s u v (e j)) :
    SeqAt.RcAt A s (.ref a) (.ref b) ((List.range (min xs.length ys.length)).all e && xs.length == ys.length) := by
  obtain ⟨its, r, tx, _⟩ := I.tuple hx
  obtain ⟨its', r', ty, _⟩ := I.tuple hy
  have l1 := r.length
  have l2 := r'.length
  have q := SeqAt.RcAt.tuples (A := A) (e := e) tx ty hu (fun j h1 h2 => ?_)
  · rw [List.size_toArray, List.size_toArray, ← l1, ← l2] at q
    exact q
  · rw [List.size_toArray] at h1 h2
    obtain ⟨x, hxj⟩ : ∃ x, xs[j]? = some x := ⟨_, List.getElem?_eq_getElem (by omega)⟩
    obtain ⟨y, hyj⟩ : ∃ y, ys[j]? = some y := ⟨_, List.getElem?_eq_getElem (by omega)⟩
    obtain ⟨u1, hu1, ru1⟩ := r.get hxj
    obtain ⟨u2, hu2, ru2⟩ := r'.get hyj
    have e1 : its.toArray[j] = u1 := by
      have := (List.getElem?_eq_some_iff.mp hu1).2
      simpa using this
    have e2 : its'.toArray[j] = u2 := by
      have := (List.getElem?_eq_some_iff.mp hu2).2
      simpa using this
    rw [e1, e2]
    exact hd j x y u1 u2 hxj hyj ru1 ru2
theorem isList_of {h : Heap} {a : Addr} {its : Array Value} (p : PlainL h a its) : h.IsList a its := by
  obtain ⟨o, n, e, c, _, d⟩ := p
  exact ⟨o, e, c, n, d⟩
theorem lsts_at {pins : List (Addr × Obj)} {σ : St} {H : Hp} {s : Shared} (I : Inv X pins σ H s) {A : Around} {a b : Addr} {xs ys : List V} {e : Nat → Bool} (hx : SqL X.K H a xs) (hy : SqL X.K H b ys) (hu : A.units < cLine)
    (hd : ∀ (j : Nat) x y u v, xs[j]? = some x → ys[j]? = some y → RelV x u → RelV y v → SeqAt.EqAt A.in1 s u v (e j)) :
    SeqAt.RcAt A s (.ref a) (.ref b) ((List.range (min xs.length ys.length)).all e && xs.length == ys.length) := by
  obtain ⟨its, r, tx, _⟩ := I.list hx
  obtain ⟨its', r', ty, _⟩ := I.list hy
  have l1 := r.length
  have l2 := r'.length
  by_cases hl : xs.length = ys.length
  · have q := SeqAt.RcAt.lists (A := A) (e := e) (isList_of tx) (isList_of ty) (by rw [List.size_toArray, List.size_toArray]; omega) hu (fun j h1 h2 => ?_)
    · rw [List.size_toArray, ← l1] at q
      have e1 : ((List.range (min xs.length ys.length)).all e && xs.length == ys.length) = (List.range xs.length).all e := by
        rw [← hl, Nat.min_self, beq_self_eq_true, Bool.and_true]
      rw [e1]
      exact q
    · rw [List.size_toArray] at h1 h2
      obtain ⟨x, hxj⟩ : ∃ x, xs[j]? = some x := ⟨_, List.getElem?_eq_getElem (by omega)⟩
      obtain ⟨y, hyj⟩ : ∃ y, ys[j]? = some y := ⟨_, List.getElem?_eq_getElem (by omega)⟩
      obtain ⟨u1, hu1, ru1⟩ := r.get hxj
      obtain ⟨u2, hu2, ru2⟩ := r'.get hyj
      have e1 : its.toArray[j] = u1 := by
        have := (List.getElem?_eq_some_iff.mp hu1).2
        simpa using this
      have e2 : its'.toArray[j] = u2 := by
        have := (List.getElem?_eq_some_iff.mp hu2).2
        simpa using this
      rw [e1, e2]
      exact hd j x y u1 u2 hxj hyj ru1 ru2
  · have q := SeqAt.RcAt.lists_lengths (A := A) (isList_of tx) (isList_of ty) (by rw [List.size_toArray, List.size_toArray, ← l1, ← l2, bne_iff_ne]; exact hl) hu
    have e1 : ((List.range (min xs.length ys.length)).all e && xs.length == ys.length) = false := by
      rw [beq_eq_false_iff_ne.mpr hl, Bool.and_false]
    rw [e1]
    exact q
theorem DEq.at {pins : List (Addr × Obj)} {σ : St} {H : Hp} {s : Shared} (I : Inv X pins σ H s) {n : Nat} {x y : V} {k : Bool} (d : DEq X.K H n x y k) : ∀ {A : Around} {u v : Value}, A.units + n < cLine → RelV x u → RelV y v → SeqAt.EqAt A s u v k := by
  induction d with
  | flat fx fy => intro A u v _ rx ry; exact eqAt_V rx ry fx fy
  | same => intro A u v _ rx ry; cases rx; cases ry; exact SeqAt.EqAt.same _
  | @tup n a b xs ys e hne hx hy hd ih =>
    intro A u v hu rx ry
    cases rx; cases ry
    exact SeqAt.EqAt.of_refs hne (tups_at I hx hy (by omega) fun j x y u v h1 h2 r1 r2 => ih j x y h1 h2 (by show A.units + 1 + n < cLine; omega) r1 r2)
  | @lst n a b xs ys e hne hx hy hd ih =>
    intro A u v hu rx ry
    cases rx; cases ry
    exact SeqAt.EqAt.of_refs hne (lsts_at I hx hy (by omega) fun j x y u v h1 h2 r1 r2 => ih j x y h1 h2 (by show A.units + 1 + n < cLine; omega) r1 r2)
/-- == of two tuples; the items' answers e -/
def rEqT (K : PySem.W.Frag) : R2 := fun x y H Q => ∃ a b xs ys, ∃ e : Nat → Bool, x = .ref a ∧ y = .ref b ∧ SqT K H a xs ∧ SqT K H b ys ∧ (∀ (j : Nat) x y, xs[j]? = some x → ys[j]? = some y → DEq K H 40 x y (e j)) ∧
  Q (.bl ((List.range (min xs.length ys.length)).all e && xs.length == ys.length)) H
def rNeT (K : PySem.W.Frag) : R2 := fun x y H Q => ∃ a b xs ys, ∃ e : Nat → Bool, x = .ref a ∧ y = .ref b ∧ SqT K H a xs ∧ SqT K H b ys ∧ (∀ (j : Nat) x y, xs[j]? = some x → ys[j]? = some y → DEq K H 40 x y (e j)) ∧
  Q (.bl (!((List.range (min xs.length ys.length)).all e && xs.length == ys.length))) H
end
end L2

namespace L2
open PySem PySem.Spec PyProof.Rows
/-! ### a list comprehension of one clause -/
/-- the loop of a comprehension, a turn at a time -/
theorem compLoop_gen {prog : Program} {w : World} {A : Around} {R : Result → Shared → Prop} {s : Shared} {elt target iter : Expr} {ifs : List Expr} {scope : Scope} {pos : Pos} {it acc : Value} {env : Env} (I : Nat → Shared → Prop)
    (turn : ∀ n s, I n s → wpAny (model prog w) A (pyNext it) (fun r s₁ => match r with
      | none => R (.ok .next) s₁
      | some v => wpAny (model prog w) A (letOwnedTupleGo target it v) (fun _ s₁' => wpAny (model prog w) A (assign target env v) (fun _ s₂ =>
          wpAny (model prog w) A (forIn ifs true fun c r => if r = true then do let ok ← isTrue c env (eval c env); pure (ForInStep.yield ok) else pure (ForInStep.yield r)) (fun ok s₃ =>
            if ok = true then wpAny (model prog w) A (eval elt env) (fun x s₄ =>
              wpAny (model prog w) A (call (.builtin "list.append") [acc, x]) (fun _ s₅ => ∃ m, m < n ∧ I m s₅) (fun _ _ => False) s₄) (fun _ _ => False) s₃
            else ∃ m, m < n ∧ I m s₃) (fun _ _ => False) s₂) (fun _ _ => False) s₁') (fun _ _ => False) s₁) (fun _ _ => False) s)
    (n : Nat) (h : I n s) : codeAny (model prog w) A (.compLoop (.ListComp elt [⟨target, iter, ifs, 0⟩] scope pos) 0 it acc env) R s := by
  refine codeAny_loop rfl I (fun n s hI => ?_) n h
  show wpAny _ A ((compTurn (.ListComp elt [⟨target, iter, ifs, 0⟩] scope pos) 0 it acc env).onRaise (fun x => do noteFrame x env; theTreesLotGoes x)) _ _ s
  refine wpAny_noted ?_
  rw [compTurn_list]
  refine wpAny_bind (wpAny_standAt (wpAny_bind (wpAny_mono (turn n s hI) (fun r s₁ h₁ => ?_) fun _ _ z => z.elim)))
  cases r with
  | none => exact wpAny_pure h₁
  | some v =>
    refine wpAny_bind (wpAny_mono h₁ (fun _ s₁' h₁' => ?_) fun _ _ z => z.elim)
    refine wpAny_bind (wpAny_mono h₁' (fun _ s₂ h₂ => wpAny_bind (wpAny_mono h₂ (fun ok s₃ h₃ => ?_) fun _ _ z => z.elim)) fun _ _ z => z.elim)
    cases ok with
    | false => exact wpAny_pure ⟨rfl, h₃⟩
    | true =>
      exact wpAny_bind (wpAny_bind (wpAny_mono h₃ (fun x s₄ h₄ => wpAny_bind (wpAny_mono h₄ (fun _ s₅ h₅ => wpAny_pure (wpAny_pure ⟨rfl, h₅⟩)) fun _ _ z => z.elim)) fun _ _ z => z.elim))
/-- the block's context -/
def blk (X : Cx) (N' : List Str) (scope : Scope) (cl : List (Str × Addr)) (C : Addr) (s₀ : Shared) (H₀ : Hp) (ex : List Addr) (pn : List (Addr × Obj)) : Cx where
  prog := X.prog
  w := X.w
  K := X.K
  mg := X.mg
  base := X.base
  A := X.A
  N := N'
  s₀ := s₀
  H₀ := H₀
  env := compEnvC scope cl C X.env
  outer := X.stack
  stack := X.stack
  ex := ex
  fn := fun _ => false
  calm := X.calm
  pn := pn
  xe := fun _ _ => False
structure ClOk (X : Cx) (scope : Scope) (cl : List (Str × Addr)) : Prop where
  run : closureFor scope X.env = pure cl
  sub : ∀ x c, cl.lookup x = some c → X.env.cells.lookup x = some c
  has : ∀ x, ((relabel scope X.env).names.lookup x = some .cell ∨ (relabel scope X.env).names.lookup x = some .free) → ∃ c, cl.lookup x = some c
/-- the names that the block takes over stand in cells -/
structure BlkN (X : Cx) (N' : List Str) (scope : Scope) (cl : List (Str × Addr)) (σ σ' : St) : Prop where
  len : σ'.length = N'.length
  from' : ∀ (i : Nat) (x : Str) (v : V), N'[i]? = some x → σ'[i]? = some (some v) → ∃ j : Nat, X.N[j]? = some x ∧ σ[j]? = some (some v) ∧ Vis X.env.scope x ∧ X.env.kindOf x ≠ some .local ∧
    ((relabel scope X.env).names.lookup x = some .cell ∨ (relabel scope X.env).names.lookup x = some .free)
section
variable {X : Cx} {pins : List (Addr × Obj)} {σ σ' : St} {H : Hp} {s : Shared}
theorem blk_start {N' : List Str} {scope : Scope} {cl : List (Str × Addr)} {fp : List Addr} {h₁ : Heap} {t' : Nat} (I : Inv X pins σ H s) (hkind : scope.kind = .function) (hcl : ClOk X scope cl) (hN : BlkN X N' scope cl σ σ') (hf : ∀ b ∈ fp, FpOk X pins H b) (hfo : ∀ b ∈ fp, b < s.heap.objs.size)
    (hns : h₁.Ns s.heap.objs.size (fun _ => none)) (hk : ∀ b o, s.heap.get? b = some o → h₁.get? b = some o) :
    Inv (blk X N' scope cl s.heap.objs.size s H fp (X.pn ++ pins)) [] σ' H { s with heap := h₁, toks := t' } := by
  have hfs : ∀ b, b ∉ (X.env.locals :: X.fs) → b ∉ frs X.stack := fun b hb z => hb (I.stkSub b z)
  refine ⟨⟨I.ok.mod, hkind, I.ok.glob, I.ok.blt, Nat.le_refl _, ?_, hcl.has, fun _ _ h => absurd h (by intro z; cases z), I.ok.hd, I.ok.frames, .inl rfl, ?_, I.bs, Nat.le_trans I.ok.bsz I.sz, ?_, ?_, I.stack, I.stkFree⟩,
    rfl, I.bare, Un.kept hk, ⟨_, hns, ?_⟩, ?_, I.hok.fresh (Nat.le_refl _), fun x c e => I.freeC x c (hcl.sub x c e), ?_, I.hok.kept hk, hN.len⟩
  · intro x y c h1 h2
    exact I.ok.inj x y c (hcl.sub x c h1) (hcl.sub y c h2)
  · intro b hb
    exact ⟨Nat.ne_of_lt (hfo b hb), fun x c e => (hf b hb).2.2.2.2.1 x c (hcl.sub x c e)⟩
  · intro b o e hb
    rcases (hf b hb).2.2.2.1 with q | q
    · exact I.ok.noex b o e q
    · exact absurd (Nat.lt_of_lt_of_le (Heap.lt_size e) (Nat.le_trans I.ok.bsz q)) (Nat.lt_irrefl _)
  · intro b hb
    refine hfs b fun z => ?_
    rcases List.mem_cons.mp z with z | z
    · exact (hf b hb).2.1 z
    · exact (hf b hb).2.2.1 z
  · intro i x v h1 h2 _
    obtain ⟨j, hj, hσ, hv, hnl, hk'⟩ := hN.from' i x v h1 h2
    obtain ⟨m, hn, hl⟩ := I.loc
    obtain ⟨u, r, l⟩ := hl j x v hj hσ hv
    refine ⟨u, r, .inr ⟨hk', ?_⟩⟩
    obtain ⟨c, hc⟩ := hcl.has x hk'
    rcases l with ⟨hloc, _⟩ | ⟨_, c', hc', hcell⟩
    · exact absurd hloc hnl
    · have e := hcl.sub x c hc
      rw [hc'] at e
      cases e
      obtain ⟨o, ho, hd⟩ := hcell
      exact ⟨_, hc, o, hk _ _ ho, hd⟩
  · intro x c e
    obtain ⟨v, o, ho, hd⟩ := I.cell x c (hcl.sub x c e)
    exact ⟨v, o, hk _ _ ho, hd⟩
  · intro p hp
    rw [show (blk X N' scope cl s.heap.objs.size s H fp (X.pn ++ pins)).pn = X.pn ++ pins from rfl, List.append_nil] at hp
    obtain ⟨a1, a2, a3, a4, a5⟩ := I.pin p hp
    refine ⟨hk _ _ a1, a2, Nat.ne_of_lt (Heap.lt_size a1), hfs _ fun z => ?_, a5⟩
    rcases List.mem_cons.mp z with z | z
    · exact a3 z
    · exact a4 z
theorem blk_end {N' : List Str} {scope : Scope} {cl : List (Str × Addr)} {fp : List Addr} {pl : List (Addr × Obj)} {H' : Hp} {s' : Shared} {h'' : Heap} (I : Inv X pins σ H s) (hf : ∀ b ∈ fp, FpOk X pins H b)
    (J : Inv (blk X N' scope cl s.heap.objs.size s H fp (X.pn ++ pins)) pl σ' H' s') (hs : Heap.SameBut s.heap.objs.size s'.heap h'') : Inv X pins σ H' { s' with heap := h'' } := by
  have hne : ∀ b o, s.heap.get? b = some o → b ≠ s.heap.objs.size := fun b o e => Nat.ne_of_lt (Heap.lt_size e)
  have hC : H' s.heap.objs.size = none := J.free
  have ub : Un (frs X.stack) fp H H' s.heap s'.heap := J.base
  have u : Un (frs X.stack) fp H H' s.heap h'' := {
    keep := fun b o e n hb hx => hs.extBut b o (hne b o e) (ub.keep b o e n hb hx)
    slot := fun b o e n hb hx => by
      obtain ⟨sl, q⟩ := ub.slot b o e n hb hx
      exact ⟨sl, hs.extBut b _ (hne b o e) q⟩
    free := ub.free
    there := fun b o e hx => by
      obtain ⟨o', q⟩ := ub.there b o e hx
      exact ⟨o', hs.extBut b _ (hne b o e) q⟩
    tups := ub.tups
    frzs := ub.frzs
    tbls := ub.tbls }
  have hok : HOk X.prog X.w H' h'' := fun a o e => (J.hok a o e).stay (fun b ob hb q => hs.extBut b ob (fun z => by
    rw [z] at hb
    rcases hb with hb | hb
    · rw [← hb, hC] at e; cases e
    · rw [hC] at hb; cases hb) q) (fun _ h => h) (fun _ _ h => h)
  exact I.call' (s' := { s' with heap := h'' }) J.os u hok J.bare fun b hb => by
    obtain ⟨f0, f1, f2, f3, f4, f5⟩ := hf b hb
    exact ⟨f3, f1, f4, f5⟩
end
end L2

namespace L2
open PySem PySem.Spec PyProof.Rows
/-- the tests of a clause -/
def PIfs (X : Cx) (ifs : List Expr) (t : TT) : Prop :=
  ∀ (pins : List (Addr × Obj)) (s : Shared) (σ : St) (H : Hp) (Q : Bool → Hp → Prop), Inv X pins σ H s → t σ H Q →
    wpAny (model X.prog X.w) X.A (forIn ifs true fun c r => if r = true then do let ok ← isTrue c X.env (eval c X.env); pure (ForInStep.yield ok) else pure (ForInStep.yield r)) (TP X pins σ Q) X.xe s
def tNoIf : TT := fun _ H Q => Q true H
theorem pifs_nil {X : Cx} : PIfs X [] tNoIf := fun _ _ _ H _ I h => wpAny_tests_nil ⟨H, I, h⟩
/-- the slots that were filled are as they were -/
structure Keep (σa σb : St) : Prop where
  len : σb.length = σa.length
  at' : ∀ (i : Nat) (v : V), σa[i]? = some (some v) → σb[i]? = some (some v)
theorem Keep.refl (σ : St) : Keep σ σ := ⟨rfl, fun _ _ h => h⟩
theorem Keep.set {σa σb : St} {i : Nat} {v : V} (k : Keep σa σb) (h : σa[i]? = some none) : Keep σa (σb.set i (some v)) := by
  refine ⟨by rw [List.length_set]; exact k.len, fun j u e => ?_⟩
  have hj : i ≠ j := by
    rintro rfl
    rw [h] at e
    cases e
  rw [List.getElem?_set_ne hj]
  exact k.at' j u e
def tComp (σf : St → St) (wi : TI) (g : TG) (tt : TT) (te : TE) : TE := fun σ H Q => wi σ H fun J H1 => ∀ D, H1 D = none → ∃ W : Nat → Nat → List V → Hp → Prop, (∃ m, W 0 m [] (upd H1 D (.lst []))) ∧
  ∀ i m ys H, W i m ys H → H D = some (.lst ys) ∧ ys.length < sizeLine ∧
    ((J.stop i H ∧ Q (.ref D) H) ∨ (J.go i H ∧ ∀ x H', J.yld i H x H' → g x (σf σ) H' fun σ2 H2 => Keep (σf σ) σ2 ∧ tt σ2 H2 fun b H3 =>
      if b = true then te σ2 H3 fun y H4 => H4 D = some (.lst ys) ∧ ∃ m', m' < m ∧ W (i + 1) m' (ys ++ [y]) (upd H4 D (.lst (ys ++ [y]))) else ∃ m', m' < m ∧ W (i + 1) m' ys H3))
theorem pe_comp {X : Cx} {elt tg iter : Expr} {ifs : List Expr} {scope : Scope} {pos : Pos} {N' : List Str} {cl : List (Str × Addr)} {wi : TI} {g : TG} {tt : TT} {te : TE} (σf : St → St)
    (hc : X.calm = true) (hkind : scope.kind = .function) (hcell : ∀ y ∈ scope.names, y.2 ≠ .cell) (hnames : ∀ y ∈ scope.names, y.2 = .local → scope.names.lookup y.1 = some .local) (hcl : ClOk X scope cl)
    (hN : ∀ σ : St, σ.length = X.N.length → BlkN X N' scope cl σ (σf σ)) (hi : PI X tg iter wi)
    (hg : ∀ C s₀ H₀ ex pn, PG (blk X N' scope cl C s₀ H₀ ex pn) tg g) (ht : ∀ C s₀ H₀ ex pn, PIfs (blk X N' scope cl C s₀ H₀ ex pn) ifs tt) (he : ∀ C s₀ H₀ ex pn, PE (blk X N' scope cl C s₀ H₀ ex pn) elt te)
    (hs : ∀ x, foldedSetIterable iter X.env x = pure x := by intro _; rfl) : PE X (.ListComp elt [⟨tg, iter, ifs, 0⟩] scope pos) (tComp σf wi g tt te) := by
  intro pins s σ H Q I h
  rw [eval_ListComp]
  refine wpAny_comprehension_free (use := none) rfl hs hcl.run hkind hnames (thn (hi pins s σ H _ I h) fun v s1 h1 => thn h1 fun itv s2 h2 => ?_)
  obtain ⟨it, fp, tn, J, H2, rfl, I2, T, st2, f2, q⟩ := h2
  refine wpAny_newObj_type (wpAny_newFunctionEnv hcell (by intro y hy; simp at hy) (fun h₁ hns₁ hsb₁ => ?_) hkind)
  dsimp only at hns₁ hsb₁ ⊢
  have hfo : ∀ b ∈ fp, b < s2.heap.objs.size := fun b hb => by
    obtain ⟨o, e, _⟩ := T.obj _ _ st2 b hb
    exact Heap.lt_size e
  have hDf : H2 s2.heap.objs.size = none := I2.hok.fresh (Nat.le_refl _)
  obtain ⟨W, ⟨m0, w0⟩, turn⟩ := q s2.heap.objs.size hDf
  have I3 : Inv X pins σ (upd H2 s2.heap.objs.size (.lst [])) { s2 with heap := s2.heap.push { cls := .type "list", data := .seq ([] : List Value).toArray } } := I2.lnew (its := []) (t' := s2.toks) .nil (Nat.zero_le _)
  have f3 : ∀ b ∈ fp, FpOk X pins (upd H2 s2.heap.objs.size (.lst [])) b := fun b hb => ⟨by rw [upd_ne (Nat.ne_of_lt (hfo b hb))]; exact (f2 b hb).1, (f2 b hb).2⟩
  generalize hD : s2.heap.objs.size = D at *
  generalize hs3 : ({ s2 with heap := s2.heap.push { cls := .type "list", data := .seq ([] : List Value).toArray } } : Shared) = s3 at *
  have hh3 : s3.heap = s2.heap.push { cls := .type "list", data := .seq ([] : List Value).toArray } := by rw [← hs3]
  have hsz3 : s2.heap.objs.size < s3.heap.objs.size := by rw [hh3, Heap.size_push]; exact Nat.lt_succ_self _
  have e3 : ∀ h t, ({ s2 with heap := h, toks := t } : Shared) = { s3 with heap := h, toks := t } := fun h t => by rw [← hs3]
  rw [← hh3] at hns₁ hsb₁ ⊢
  have hk3 : ∀ b o, s3.heap.get? b = some o → h₁.get? b = some o := fun b o e => hsb₁.extBut b o (Nat.ne_of_lt (Heap.lt_size e)) (Heap.get?_push_of_some _ e)
  have I4 := blk_start (t' := s3.toks) I3 hkind hcl (hN σ I.len) f3 (fun b hb => Nat.lt_trans (hfo b hb) (hD ▸ hsz3)) (hns := by simpa using hns₁) hk3
  generalize hB : blk X N' scope cl s3.heap.objs.size s3 (upd H2 D (.lst [])) fp (X.pn ++ pins) = B at *
  have hBp : B.prog = X.prog := by rw [← hB]; rfl
  have hBw : B.w = X.w := by rw [← hB]; rfl
  have hBK : B.K = X.K := by rw [← hB]; rfl
  have hBA : B.A = X.A := by rw [← hB]; rfl
  have hBc : B.calm = true := by rw [← hB]; exact hc
  have hBe : B.env = compEnvC scope cl s3.heap.objs.size X.env := by rw [← hB]; rfl
  have hBx : B.xe = fun _ _ => False := by rw [← hB]; rfl
  have hGB : PG B tg g := hB ▸ hg _ _ _ _ _
  have hTB : PIfs B ifs tt := hB ▸ ht _ _ _ _ _
  have hEB : PE B elt te := hB ▸ he _ _ _ _ _
  have stat : ∀ {H' : Hp}, (∀ b ∈ fp, H' b = none) → ∀ b ∈ fp, FpOk B [] H' b := fun {H'} hn b hb => by
    obtain ⟨f0, f1, f2', f3', f4, f5⟩ := f3 b hb
    rw [← hB]
    refine ⟨hn b hb, Nat.ne_of_lt (Nat.lt_trans (hfo b hb) (hD ▸ hsz3)), fun z => ?_, .inl hb, fun x c e => f4 x c (hcl.sub x c e), fun p hp => ?_⟩
    · rcases List.mem_cons.mp (I.stkSub b z) with z | z
      · exact f1 z
      · exact f2' z
    · rw [show (blk X N' scope cl s3.heap.objs.size s3 (upd H2 D (.lst [])) fp (X.pn ++ pins)).pn = X.pn ++ pins from rfl, List.append_nil] at hp
      exact f5 p hp
  have loop : ∀ s4 : Shared, Inv B [] (σf σ) (upd H2 D (.lst [])) s4 → tn 0 s4.heap →
      codeAny (model X.prog X.w) X.A (.compLoop (.ListComp elt [⟨tg, iter, ifs, 0⟩] scope pos) 0 (.ref it) (.ref D) (compEnvC scope cl s3.heap.objs.size X.env)) (compPost (model X.prog X.w) X.A X.xe none (EP X pins σ Q) (.ref D) s3.heap.objs.size) s4 := by
    intro s4 I4 st4
    refine compLoop_gen (I := fun n s' => ∃ i ys H', Inv B [] (σf σ) H' s' ∧ tn i s'.heap ∧ (∀ b ∈ fp, H' b = none) ∧ W i n ys H') ?_ m0 ⟨0, [], _, I4, st4, fun b hb => (f3 b hb).1, w0⟩
    rintro n s5 ⟨i, ys, H5, I5, st5, fr5, w5⟩
    obtain ⟨hD5, hlen5, alt⟩ := turn i n ys H5 w5
    rcases alt with ⟨stop, qn⟩ | ⟨go, step⟩
    · have z := T.done B hBp hBw hBK hBc i [] s5 (σf σ) H5 (fun _ _ => False) I5 (stat fr5) st5 stop
      rw [hBA] at z
      refine thn z fun r s6 ⟨hr, I6⟩ => ?_
      subst hr
      obtain ⟨m6, hn6, _⟩ := I6.loc
      rw [hBe] at hn6
      refine ⟨m6, hn6, fun h' hs' => ?_⟩
      subst hB
      exact ⟨.ref D, H5, blk_end I3 f3 I6 hs', rfl, qn⟩
    · have z := T.item B hBp hBw hBK hBc i [] s5 (σf σ) H5 (fun _ _ => False) I5 (stat fr5) st5 go
      rw [hBA] at z
      refine thn z fun r s6 ⟨u, hr, h6⟩ => ?_
      subst hr
      refine thn h6 fun _ s7 ⟨x, H7, I7, r7, y7, st7, fr7⟩ => ?_
      have I7' := I7.pinned (stat fr7) (T.obj _ _ st7)
      have z8 := hGB _ s7 (σf σ) H7 x u _ I7' r7 (step x H7 y7)
      rw [hBp, hBw, hBA, hBe, hBx] at z8
      refine thn z8 fun _ s8 ⟨σ8, H8, I8, k8, q8⟩ => ?_
      have z9 := hTB _ s8 σ8 H8 _ I8 q8
      rw [hBp, hBw, hBA, hBe, hBx] at z9
      refine thn z9 fun ok s9 ⟨H9, I9, q9⟩ => ?_
      have again : ∀ {ys' : List V} {H' : Hp} {s' : Shared}, Inv B ([] ++ pinsAt fp s7.heap) σ8 H' s' → (∃ m', m' < n ∧ W (i + 1) m' ys' H') → ∃ m, m < n ∧ ∃ i ys H', Inv B [] (σf σ) H' s' ∧ tn i s'.heap ∧ (∀ b ∈ fp, H' b = none) ∧ W i m ys H' := fun {ys' H' s'} J ⟨m', hm, w'⟩ => by
        refine ⟨m', hm, i + 1, ys', H', J.unpinned.weak k8.len.symm k8.at', T.keep _ _ _ st7 fun b hb o e => (J.pin (b, o) (List.mem_append_right _ (List.mem_append_right _ (mem_pinsAt hb e)))).1, fun b hb => ?_, w'⟩
        obtain ⟨o, e, d⟩ := T.obj _ _ st7 b hb
        exact (J.pin (b, o) (List.mem_append_right _ (List.mem_append_right _ (mem_pinsAt hb e)))).2.1
      cases ok with
      | false => exact again I9 q9
      | true =>
        have z10 := hEB _ s9 σ8 H9 _ I9 q9
        rw [hBp, hBw, hBA, hBe, hBx] at z10
        refine thn z10 fun y10 s10 ⟨y, H10, I10, r10, hD10, q10⟩ => ?_
        have z11 := mt_append (X := B) _ s10 σ8 H10 (.ref D) [y] (.ref D) [y10] (fun _ H' => ∃ m', m' < n ∧ W (i + 1) m' (ys ++ [y]) H') I10 rfl (.cons r10 .nil) ⟨D, ys, y, rfl, rfl, hD10, hlen5, q10⟩
        rw [hBp, hBw, hBA, hBx] at z11
        refine thn z11 fun _ s11 ⟨_, H11, I11, _, q11⟩ => again I11 q11
  have st4 : tn 0 ({ s3 with heap := h₁, toks := s3.toks } : Shared).heap := T.keep _ _ _ st2 fun b hb o e => hk3 b o (by rw [hh3]; exact Heap.get?_push_of_some _ e)
  have L4 := loop _ I4 st4
  subst hs3
  exact codeAny_compStart_list L4 (T.self _ 0 _ _ _ st4 L4)
end L2

namespace L2
open PySem PySem.Spec PyProof.Rows
/-! ### large ints: sizes in bits -/
def Bt (n : Nat) (x : Int) : Prop := x.natAbs < 2 ^ n
theorem Bt.bits {n : Nat} {x : Int} (h : Bt n x) : Builtin.Int.intBits x ≤ n := intBits_le_iff.mpr h
theorem Bt.of_bits {n : Nat} {x : Int} (h : Builtin.Int.intBits x ≤ n) : Bt n x := intBits_le_iff.mp h
theorem Bt.mono {m n : Nat} {x : Int} (h : Bt m x) (hn : m ≤ n) : Bt n x := Nat.lt_of_lt_of_le h (Nat.pow_le_pow_right (by decide) hn)
theorem Bt.mul {m n : Nat} {x y : Int} (h : Bt m x) (h' : Bt n y) : Bt (m + n) (x * y) := .of_bits (intBits_mul_le h.bits h'.bits)
theorem Bt.add {m : Nat} {x y : Int} (h : Bt m x) (h' : Bt m y) : Bt (m + 1) (x + y) := .of_bits (by have := intBits_add_le h.bits h'.bits; rwa [Nat.max_self] at this)
theorem Bt.le {m : Nat} {x y : Int} (h : Bt m y) (h0 : 0 ≤ x) (hy : x ≤ y) : Bt m x := by
  unfold Bt at *
  omega
theorem log_of {n : Nat} {x : Int} (h : Bt n x) (hp : 0 < x) (hn : n ≤ 9000) : x.natAbs.log2 < 9000 := by
  have : x.natAbs.log2 < n := (Nat.log2_lt (by omega)).mpr h
  omega
def CMulB (i j : Int) : Prop := Bt 1000000 i ∧ Bt 1000000 j
def CDivB (_i j : Int) : Prop := 0 < j ∧ Bt 9000 j
def CPowB (i j : Int) : Prop := 0 ≤ j ∧ j ≤ 1000 ∧ Bt 1000 i
section
variable {X : Cx}
theorem op_mulB : OpR X (binaryOp .Mult) (rI CMulB fun i j => .int (i * j)) := opI fun _ _ _ _ _ _ _ hc q => mul_int q (.of_bits (Nat.le_trans hc.1.bits (by decide)) (Nat.le_trans hc.2.bits (by decide)))
theorem op_fdivB : OpR X (binaryOp .FloorDiv) (rI CDivB fun i j => .int (i / j)) := opI fun i j _ _ _ _ _ hc q => by
  have h1 : (0 : Int) < j := hc.1
  rw [← Int.fdiv_eq_ediv_of_nonneg i (Int.le_of_lt h1)] at q
  exact floordiv_int (by omega) q (.inl (PyProof.noPylong_of_log2 (log_of hc.2 h1 (Nat.le_refl _))))
theorem op_powB : OpR X (binaryOp .Pow) (rI CPowB fun i j => .int (i ^ j.toNat)) := opI fun i j _ _ _ _ _ hc q => by
  obtain ⟨h0, h1, h2⟩ := hc
  refine PyProof.Rows.pow_int h0 ?_ q
  have b := h2.bits
  have e : (2 : Int) ^ 27 = 134217728 := by decide
  have := Int.mul_le_mul (show (Builtin.Int.intBits i : Int) ≤ 1000 by omega) h1 h0 (by decide)
  omega
/-! ### tuples of ints -/
def rEqI (K : PySem.W.Frag) : R2 := fun x y H Q => ∃ a b, ∃ ns ms : List Int, x = .ref a ∧ y = .ref b ∧ SqT K H a (ns.map V.int) ∧ SqT K H b (ms.map V.int) ∧ Q (.bl (decide (ns = ms))) H
def rNeI (K : PySem.W.Frag) : R2 := fun x y H Q => ∃ a b, ∃ ns ms : List Int, x = .ref a ∧ y = .ref b ∧ SqT K H a (ns.map V.int) ∧ SqT K H b (ms.map V.int) ∧ Q (.bl (!decide (ns = ms))) H
theorem nes_at {pins : List (Addr × Obj)} {σ : St} {H : Hp} {s : Shared} (I : Inv X pins σ H s) {A : Around} {a b : Addr} {xs ys : List V} {e : Nat → Bool} (hx : SqT X.K H a xs) (hy : SqT X.K H b ys) (hu : A.units < cLine)
    (hd : ∀ (j : Nat) x y u v, xs[j]? = some x → ys[j]? = some y → RelV x u → RelV y v → SeqAt.EqAt A.in1 s u v (e j)) :
    SeqAt.RcNeAt A s (.ref a) (.ref b) (!((List.range (min xs.length ys.length)).all e && xs.length == ys.length)) := by
  obtain ⟨its, r, tx, _⟩ := I.tuple hx
  obtain ⟨its', r', ty, _⟩ := I.tuple hy
  have l1 := r.length
  have l2 := r'.length
  have q := SeqAt.RcNeAt.tuples (A := A) (e := e) tx ty hu (fun j h1 h2 => ?_)
  · rw [List.size_toArray, List.size_toArray, ← l1, ← l2] at q
    exact q
  · rw [List.size_toArray] at h1 h2
    obtain ⟨x, hxj⟩ : ∃ x, xs[j]? = some x := ⟨_, List.getElem?_eq_getElem (by omega)⟩
    obtain ⟨y, hyj⟩ : ∃ y, ys[j]? = some y := ⟨_, List.getElem?_eq_getElem (by omega)⟩
    obtain ⟨u1, hu1, ru1⟩ := r.get hxj
    obtain ⟨u2, hu2, ru2⟩ := r'.get hyj
    have e1 : its.toArray[j] = u1 := by
      have := (List.getElem?_eq_some_iff.mp hu1).2
      simpa using this
    have e2 : its'.toArray[j] = u2 := by
      have := (List.getElem?_eq_some_iff.mp hu2).2
      simpa using this
    rw [e1, e2]
    exact hd j x y u1 u2 hxj hyj ru1 ru2
theorem op_neT (hu : X.A.units + 64 < cLine) : OpR X (compareOp .NotEq) (rNeT X.K) := by
  intro pins s σ H x y v u Q I rx ry h
  obtain ⟨a, b, xs, ys, e, rfl, rfl, hx, hy, hd, q⟩ := h
  cases rx; cases ry
  exact nes_at I hx hy (by omega) (fun j x y u v h1 h2 r1 r2 => (hd j x y h1 h2).at I (by show X.A.units + 1 + 40 < cLine; omega) r1 r2) X.prog X.w X.xe _ ⟨.bl _, H, I, rfl, q⟩
end
end L2

namespace L2
open PySem PySem.Spec PyProof.Rows
section
variable {X : Cx}
/-- an item of the tuple that a name holds -/
def tIt (K : PySem.W.Frag) (i k : Nat) : TE := fun σ H Q => ∃ p xs v, σ[i]? = some (some (.ref p)) ∧ SqT K H p xs ∧ xs[k]? = some v ∧ Q v H
theorem pit (i k : Nat) {x : Str} {p q : Pos} {j : Nat} (hN : X.N[i]? = some x := by rfl) (hv : Vis X.env.scope x := by first | exact Or.inl rfl | exact Or.inr (Or.inl rfl) | exact Or.inr (Or.inr rfl)) (hd : (x == ("__debug__" : Str)) = false := by decide)
    (hcd : (x == ("__classdict__" : Str)) = false := by decide) {pos : Pos} : PE X (.Subscript (.Name x p) (.Constant (.int (k : Int)) j q) pos) (tIt X.K i k) := by
  intro pins s σ H Q I h
  obtain ⟨a, xs, v, e, hs, hk, q⟩ := h
  exact pe_ix ix_tup (pe_var hN hv hd hcd) pe_int (fun _ _ => rfl) pins s σ H Q I ⟨_, e, a, xs, (k : Int), v, rfl, rfl, hs, atI_nat hk, q⟩
/-- a def of the text that may be called by its name -/
structure Cal (P : Program) (w : World) (K : PySem.W.Frag) (mg : Str → Option Value) (base : Heap) (CX : CXT) (k : Nat) (x : Str) (ps : List Str) (sp : Sp) : Prop where
  ex : ∃ (f : Addr) (fd : FuncData), mg x = some (.ref f) ∧ PySem.W.keepIn K (.ref f) = true ∧ Binds K fd ps [] ∧ FnOk P w K mg base CX k f fd ps sp
theorem pe_cal {CX : CXT} {k : Nat} {x : Str} {ps : List Str} {sp : Sp} {E : XK} {e : Expr} {es : List Expr} {t : TA} {p pos : Pos} (C : Cal X.prog X.w X.K X.mg X.base CX k x ps sp) (hr : Room k X.A) (hg : Gl X x) (hx : Passes CX X E)
    (ha : PA X (e :: es) t) (hdb : (x == ("__debug__" : Str)) = false := by decide) (he : starEach (e :: es) X.env = (false, eval e X.env) :: starEach es X.env := by rfl) (hpl : (backTo pos (starEach es X.env)).any (·.1) = false := by rfl) :
    PE X (.Call (.Name x p) (e :: es) [] pos) (tCall sp [] E t) := by
  obtain ⟨f, fd, hm, hk, hb, F⟩ := C.ex
  exact pe_call F hr hg hm hk hb .nil hx ha hdb he hpl
theorem Cal.mono {P : Program} {w : World} {K : PySem.W.Frag} {mg : Str → Option Value} {base : Heap} {CX : CXT} {j k : Nat} {x : Str} {ps : List Str} {sp : Sp} (C : Cal P w K mg base CX j x ps sp) (h : j ≤ k) : Cal P w K mg base CX k x ps sp := by
  obtain ⟨f, fd, hm, hk, hb, F⟩ := C.ex
  exact ⟨f, fd, hm, hk, hb, F.mono h⟩
end
theorem Same.tup {K : PySem.W.Frag} {H H' : Hp} {a : Addr} {xs : List V} (e : Same H H') (h : SqT K H a xs) : SqT K H' a xs := by
  rcases h with (h | ⟨o, h⟩) | h
  · exact .inl (.inl (e _ _ h))
  · exact .inl (.inr ⟨o, e _ _ h⟩)
  · exact .inr h
theorem Same.upd {H : Hp} {a : Addr} {o : HO} (h : H a = none) : Same H (upd H a o) := fun b u e => by
  rw [upd_ne (ne_of_none e h)]
  exact e
/-- a new tuple of ints comes back, all else as it was -/
def RetT (H : Hp) (Q : VK) (ns : List Int) : Prop := ∀ p H', Same H H' → H' p = some (.tup (ns.map V.int)) → Q (.ref p) H'
end L2

namespace L2
open PySem PySem.Spec PyProof.Rows PySem.W
/-- an own class of errors, as the top has made it -/
structure ExK (K : Frag) (C : Addr) : Prop where
  ga : findIn K (.ref C) "__getattribute__" = some (some (.builtin "BaseException.__getattribute__"))
  gt : findIn K (.ref C) "__getattr__" = some none
  cl : findIn K (.ref C) "__class__" = some (some (.builtin "object.__class__"))
  sb : subIn K (.ref C) (.type "BaseException") = some true
  so : subIn K (.ref C) (.type "object") = some true
  ci : (clsIn K C).isSome = true
/-- an object of the class at C stands at a -/
structure ExAt (h : Heap) (a : Addr) (o : Obj) (C : Addr) : Prop where
  at_ : h.get? a = some o
  cls : o.cls = .ref C
section
variable {prog : Program} {w : World} {A : Around} {E : Value → Shared → Prop} {h : Heap} {g : Array GenState} {d : Drawn} {t : Nat} {os : OsState} {a C : Addr} {o : Obj} {K : Frag}
end
/-- an object of an own class of errors stands at a: what is tracked of it -/
def excO (a C : Addr) : HO := .ext fun h => ∃ o, ExAt h a o C
section
variable {X : Cx}
end
end L2

namespace L2
open PySem PySem.Spec PyProof.Rows PySem.W
/-! ### an error on its way, with its own dict -/
/-- an error at e with a traceback, its class, its dict -/
def TrD (h base : Heap) (e : Addr) (cls : Value) (dd : Option Addr) (fl : Value) : Prop :=
  ∃ (ob tb : Obj) (us ts : Array Value) (T : Addr), (h.get? e = some ob ∧ ob.data = .fields us ∧ ob.cls = cls ∧ ob.dict = dd) ∧ us[1]? = some (.ref T) ∧ (base.get? T = none ∧ T ≠ e) ∧ h.get? T = some tb ∧ tb.data = .fields ts ∧ ts[3]? = some fl
structure FlyD (base : Heap) (l : List Env) (e : Addr) (cls : Value) (dd : Option Addr) (fl : Value) (h : Heap) : Prop where
  st : base.StaysIn h
  no : base.get? e = none
  fr : h.FunFrames base l
  tr : TrD h base e cls dd fl
section
variable {M : Model} {A : Around} {E : Value → Shared → Prop} {s : Shared} {base : Heap} {env : Env} {outer : List Env} {L e : Addr} {Q : Unit → Shared → Prop} {cls : Value} {dd : Option Addr}
end
end L2

namespace L2
open PySem PySem.Spec PyProof.Rows PySem.W
/-- an error is under way, with its own dict: what is known behind a call that ended so (s, H: ahead of the call) -/
structure Flx (P : Program) (w : World) (outer : List Env) (H : Hp) (s : Shared) (H' : Hp) (ea : Addr) (cls : Value) (dd : Option Addr) (s' : Shared) : Prop where
  os : s'.os = s.os
  bare : AllBare s'.gens
  un : Un (frs outer) [] H H' s.heap s'.heap
  fl : ∃ B : Heap, HOk P w H' B ∧ FlyD B outer ea cls dd .none s'.heap ∧ (∀ b o, s.heap.get? b = some o → H b = none → b ∉ frs outer → B.get? b = some o) ∧ (∀ b o, s.heap.get? b = some o → b ∉ frs outer → ∃ o', B.get? b = some o')
def CXg (P : Program) (w : World) : CXT := fun outer H s E e s' => ∃ (ea C : Addr) (dd : Option Addr) (H' : Hp), e = .ref ea ∧ Flx P w outer H s H' ea (.ref C) dd s' ∧ E (.ref C) dd H'
/-- a def's body running: it has a frame of its own and nothing that was made ahead of it turns -/
structure OwnF (X : Cx) : Prop where
  stk : X.stack = X.env :: X.outer
  fr : X.env.frame = some X.env.locals
  ex : X.ex = []
section
variable {X : Cx} {pins : List (Addr × Obj)} {σ : St} {H H' : Hp} {s s' : Shared}
end
/-- the body of a def that may raise -/
abbrev cxF (P : Program) (w : World) (K : Frag) (mg : Str → Option Value) (base : Heap) (N : List Str) (qual : Str) (scope : Scope) (f : Addr) (cd : Value) (A : Around) (outer : List Env) (s : Shared) (H : Hp) (E : XK) : Cx := cxOf (CXg P w) P w K mg base N qual scope f cd A outer s H E
section
variable {P : Program} {w : World} {K : Frag} {mg : Str → Option Value} {base : Heap} {N : List Str} {qual : Str} {scope : Scope} {f : Addr} {cd : Value} {A : Around} {outer : List Env} {s : Shared} {H : Hp} {E : XK}
/-- an error that stands there, untracked, leaves -/
def XeOk (X : Cx) (E : XK) : Prop := ∀ (pins : List (Addr × Obj)) (σ : St) (H : Hp) (s : Shared) (ea C : Addr) (ob : Obj) (us : Array Value), Inv X pins σ H s → H ea = none → X.s₀.heap.get? ea = none → s.heap.get? ea = some ob → ob.cls = .ref C → ob.data = .fields us → us[1]? = some .none → E (.ref C) ob.dict H → X.xe (.ref ea) s
end
end L2

namespace L2
open PySem PySem.Spec PyProof.Rows PySem.W
/-- the class that an except names -/
structure CtK (K : Frag) (D : Addr) : Prop where
  ty : typeIn K (.ref D) = some (.type "type")
  ci : (clsIn K D).isSome = true
  sb : subIn K (.ref D) (.type "BaseException") = some true
/-! ### raise -/
abbrev bmV : List Value := [.type "ValueError", .type "Exception", .type "BaseException", .type "object"]
structure ClsObj (h : Heap) (C : Addr) (bmB : List Value) (newId : String) : Prop where
  ex : ∃ (nm q : Str) (N : Addr) (bs bm : List Value) (hdct : Bool) (sn : List Str) (sub : List Value) (ab : Bool) (col : Option Bool) (dd : Option Addr) (k0 k1 k2 k3 k5 : Option Value) (mN : Str → Option Value),
    h.get? C = some (excClassObj nm q C N bs bm hdct sn sub ab col dd k0 k1 k2 k3 k5 newId) ∧ h.Ns N mN ∧ mN "__init__" = none ∧ OwnTail h bmB bm
/-- an error of the class at C that was caught, its dict -/
def excD (a C : Addr) (dd : Option Addr) : HO := .ext fun h => ∃ o, ExAt h a o C ∧ o.dict = dd ∧ ∃ us, o.data = .fields us
def tRaise (C : Addr) (E : XK) (t : TA) : TS := fun _ σ H => t σ H fun vs H1 => vs.length ≤ sizeLine ∧ E (.ref C) none H1
section
variable {X : Cx}
end
/-- within an except suite, from which nothing is raised -/
abbrev Cx.within (X : Cx) (v : Value) : Cx := { X with A := X.A.mark (some v), calm := false, xe := fun _ _ => False }
/-- within a try: what is wanted of an error, and pins that every state bears -/
abbrev Cx.trying (X : Cx) (pins : List (Addr × Obj)) (E : Value → Shared → Prop) : Cx := { X with pn := X.pn ++ pins, xe := E }
section
variable {X : Cx} {pins : List (Addr × Obj)} {σ : St} {H H' : Hp} {s s' : Shared}
/-- an error of the body is caught under the name n and kept under the name y (slot j) -/
def tTry (K : Frag) (N j : Nat) (Dc : Addr) (tb : XK → TS) : TS := fun D σ H => tb (fun cls dd H' => ∃ C, cls = .ref C ∧ ExK K C ∧ subIn K (.ref C) (.ref Dc) = some true ∧ ∀ a, H' a = none → D.nx ((List.replicate N none).set j (some (.ref a))) (upd H' a (excD a C dd))) D σ H
end
end L2

namespace L2
open PySem PySem.Spec PyProof.Rows PySem.W
/-! ### an own class of errors with an __init__ of its own -/
/-- the class at C stands under the one at P, which stands under ValueError; its __init__ is the def at f -/
def xiIn (K : Frag) (C P f : Addr) : Bool := match K.lookup C with
  | some ⟨.type "type", _, .cls cd, sl⟩ => (match cd.mro, sl.toList with
    | .ref C' :: .ref P' :: bm, [_, _, _, _, some (.builtin n), _] => C' == C && P' == P && n == "ValueError.__new__" && !cd.hasDel && cd.hasDict && tailIn K bmV (.ref P' :: bm) && nsOkIn K cd.ns && nsIn K cd.ns "__init__" == some (some (.ref f)) && bm == bmV
    | _, _ => false)
  | _ => false
structure ClsI (h : Heap) (C P f : Addr) : Prop where
  ex : ∃ (nm q : Str) (N : Addr) (bs : List Value) (sn : List Str) (sub : List Value) (ab : Bool) (col : Option Bool) (dd : Option Addr) (k0 k1 k2 k3 k5 : Option Value) (mN : Str → Option Value),
    h.get? C = some (excClassObj nm q C N bs (.ref P :: bmV) true sn sub ab col dd k0 k1 k2 k3 k5 "ValueError.__new__") ∧ h.Ns N mN ∧ mN "__init__" = some (.ref f) ∧ OwnTail h bmV (.ref P :: bmV)
section
variable {prog : Program} {w : World} {A : Around} {E : Value → Shared → Prop} {h : Heap} {g : Array GenState} {d : Drawn} {t : Nat} {os : OsState} {K : Frag} {C P f : Addr}
/-- what stands there when __init__ is called -/
abbrev excNew (h : Heap) (C : Addr) (rest : List Value) : Heap := (h.push { cls := .type "tuple", data := .seq rest.toArray }).push { cls := .ref C, data := .fields #[.ref h.objs.size, .none, .none, .none, .bool false, .none] }
end
end L2

namespace L2
open PySem PySem.Spec PyProof.Rows PySem.W
/-- an error that is being made, or was made and is not raised yet: its class, its dict -/
def exN (a C : Addr) (dd : Option Addr) : HO := .ext fun h => ∃ o t, (h.get? a = some o ∧ o.cls = .ref C ∧ o.dict = dd) ∧ o.data = .fields #[t, .none, .none, .none, .bool false, .none]
/-- what is no more tracked -/
def rem (H : Hp) (a : Addr) : Hp := fun b => if b = a then none else H b
section
variable {X : Cx} {pins : List (Addr × Obj)} {σ : St} {H : Hp} {s : Shared}
end
/-- an own class of errors with an __init__, as the top made it -/
structure ExI (K : Frag) (C P f : Addr) : Prop where
  xi : xiIn K C P f = true
  fn : typeIn K (.ref f) = some (.type "function")
  kp : keepIn K (.ref C) = true
  k : ExK K C
/-- raise C(..): the error is made, __init__ runs, it leaves -/
def tRaiseI (C : Addr) (sp : Sp) (E : XK) (t : TA) : TS := fun _ σ H => t σ H fun vs H1 => vs.length ≤ sizeLine ∧ ∀ e, H1 e = none →
  sp (.ref e :: vs) (upd H1 e (exN e C none)) (fun v H2 => v = .non ∧ ∃ dd, H2 e = some (exN e C dd) ∧ E (.ref C) dd (rem H2 e)) E0
section
variable {X : Cx}
end
end L2

namespace L2
open PySem PySem.Spec PyProof.Rows PySem.W PySem.Builtin PySem.Builtin.ObjectAttr
section
variable {prog : Program} {w : World} {A : Around} {E : Value → Shared → Prop} {h : Heap} {g : Array GenState} {d : Drawn} {t : Nat} {os : OsState} {K : Frag} {C P f a : Addr} {o : Obj} {name : Str} {v : Value}
/-! ### e.name -/
end
/-! ### in the layer -/
/-- what the top made of a class of errors with fields: no attribute of the class has a field's name -/
structure ExF (K : Frag) (C P f : Addr) (x : Str) : Prop where
  i : ExI K C P f
  sa : findIn K (.ref C) "__setattr__" = some (some (.builtin "object.__setattr__"))
  nn : findIn K (.ref C) x = some none
/-- the dict of an error -/
def xdE (a : Addr) (fs : List (Str × V)) : HO := .ext fun h => ∃ mA, h.Ns1 a mA ∧ (∀ g, RelO (fs.lookup g) (mA g)) ∧ Within mA (fs.map (·.1))
section
variable {X : Cx} {pins : List (Addr × Obj)} {σ : St} {H : Hp} {s : Shared} {o e value : Expr} {x : Str} {pos pos' : Pos} {ta tv : TE} {C P f : Addr}
/-- e.x = value, the first one -/
def sExN (K : Frag) (C P f : Addr) (ta tv : TE) (x : Str) : TS := fun D σ H => tv σ H fun y H1 => ta σ H1 fun z H2 => ∃ a, z = .ref a ∧ H2 a = some (exN a C none) ∧ ExF K C P f x ∧
  ∀ dx, H2 dx = none → dx ≠ a → D.nx σ (upd (upd H2 a (exN a C (some dx))) dx (xdE dx [(x, y)]))
end
end L2

namespace L2
open PySem PySem.Spec PyProof.Rows PySem.W PySem.Builtin PySem.Builtin.ObjectAttr
section
variable {prog : Program} {w : World} {A : Around} {E : Value → Shared → Prop} {h : Heap} {g : Array GenState} {d : Drawn} {t : Nat} {os : OsState} {K : Frag} {C P f a : Addr} {o : Obj} {v : Value}
end
/-- the class whose __init__ is called by its name -/
structure BaseI (K : Frag) (P : Addr) : Prop where
  rd : readsIn K P (.type "type") = true
  fc : findCls K (.ref P) (.type "type") "__init__" = some (.val (.builtin "ValueError.__init__"))
  ga : specialIn K (.ref P) "__getattribute__" = some (some (.builtin "type.__getattribute__"))
section
variable {X : Cx} {C P f : Addr} {x : Str} {p apos pos : Pos} {e₁ e₂ : Expr} {t : TA}
/-- Base.__init__(self, text) -/
def tBInit (K : Frag) (P : Addr) (t : TA) : TE := fun σ H Q => t σ H fun vs H1 => ∃ a C dd f txt, vs = [.ref a, .str txt] ∧ H1 a = some (exN a C dd) ∧ ExI K C P f ∧ Q .non H1
/-! ### e.x of an error that was caught -/
def tExF (K : Frag) (ta : TE) (x : Str) : TE := fun σ H Q => ta σ H fun z H1 => ∃ a C P f dx fs v, z = .ref a ∧ H1 a = some (excD a C (some dx)) ∧ H1 dx = some (xdE dx fs) ∧ ExF K C P f x ∧ fs.lookup x = some v ∧ Q v H1
end
end L2

namespace L2
open PySem PySem.Spec PyProof.Rows PySem.W
/-! ### f-strings -/
/-- what stands in an f-string for a value -/
def FmtV : V → Str → Prop
  | .int i, x => i.natAbs.log2 < 1920 ∧ x = (toString i : String)
  | .str y, x => y.length ≤ sizeLine ∧ x = y
  | .non, x => x = "None"
  | _, _ => False
def tFmt (ta : TE) : TE := fun σ H Q => ta σ H fun v H1 => ∃ x, FmtV v x ∧ Q (.str x) H1
abbrev TJ := Str → St → Hp → (Str → Hp → Prop) → Prop
/-- the parts of an f-string, behind what was joined so far -/
def PJ (X : Cx) (es : List Expr) (t : TJ) : Prop :=
  ∀ (acc : Str) (pins : List (Addr × Obj)) (s : Shared) (σ : St) (H : Hp) (Q : Str → Hp → Prop), Inv X pins σ H s → t acc σ H Q → wpAny (model X.prog X.w) X.A (joinParts acc (evalEach es X.env)) (EP X pins σ fun v H' => ∃ x, v = .str x ∧ Q x H') X.xe s
def jNil : TJ := fun acc _ H Q => acc.length ≤ sizeLine ∧ Q acc H
def jCons (te : TE) (tr : TJ) : TJ := fun acc σ H Q => te σ H fun v H1 => ∃ x, v = .str x ∧ (acc ++ x).length ≤ sizeLine ∧ tr (acc ++ x) σ H1 Q
def tJoin (t : TJ) : TE := fun σ H Q => t Str.empty σ H fun x H' => Q (.str x) H'
section
variable {X : Cx} {value e e' : Expr} {es : List Expr} {ta te : TE} {tr t : TJ} {pos : Pos}
end
end L2

namespace L2
open PySem PySem.Spec PyProof.Rows PySem.W
/-! ### over a text, sign by sign -/
def Its (x : Str) : It := ⟨fun i _ => ∃ c, x.cps[i]? = some c, fun i H v H' => H' = H ∧ ∃ c, x.cps[i]? = some c ∧ v = .str ⟨#[c]⟩, fun i _ => x.cps[i]? = none⟩
theorem turn_str {P : Program} {w : World} {K : Frag} {tg : Expr} (x : Str) (t : Tok) (it : Addr) (b : Bool) :
    Turn P w K tg (Its x) [it] it (fun i h => h.IsStrIter it (if b then "str_ascii_iterator" else "str_iterator") x t i) where
  mem := by simp
  obj := fun i h st a ha => by
    have e : a = it := by simpa using ha
    subst e
    obtain ⟨o, e, c, d⟩ := st
    exact ⟨o, e, fun v z => by rw [d] at z; cases z⟩
  keep := fun i h h' ⟨o, e, r⟩ k => ⟨o, k it (by simp) o e, r⟩
  item := by
    intro X hP hw hK hc i pins s σ H E I hf st hg
    subst hP hw hK
    obtain ⟨c, hx⟩ := hg
    obtain ⟨f0, f1, f2, f3, f4, f5⟩ := hf it (by simp)
    have go : ∀ h', h'.IsStrIter it (if b then "str_ascii_iterator" else "str_iterator") x t (i + 1) → Heap.SameBut it s.heap h' →
        ∃ u, (some (Value.str ⟨#[c]⟩ s.toks)) = some u ∧ wpAny (model X.prog X.w) X.A (letOwnedTupleGo tg (.ref it) u) (fun _ s2 => ∃ v H', Inv X pins σ H' s2 ∧ RelV v u ∧ (Its x).yld i H v H' ∧ s2.heap.IsStrIter it (if b then "str_ascii_iterator" else "str_iterator") x t (i + 1) ∧ ∀ b ∈ [it], H' b = none) E { s with heap := h', toks := s.toks + 1 } := by
      intro h' st' sb
      have I1 : Inv X pins σ H { s with heap := h', toks := s.toks + 1 } := I.turned (t' := s.toks + 1) (fun b o hb e => (sb.2 b hb).trans e) f0 f1 f3 f4 f5
      obtain ⟨o, e, cc, d⟩ := id st'
      exact ⟨_, rfl, go_of (s := { s with heap := h', toks := s.toks + 1 }) e cc d (by cases b <;> decide) ⟨.str ⟨#[c]⟩, H, I1, ⟨_, rfl⟩, ⟨rfl, c, hx, rfl⟩, st', fun b hb => (hf b hb).1⟩⟩
    cases b with
    | true => exact wpAny_pyNext_ascii_item st hx go
    | false => exact wpAny_pyNext_wide_item st hx go
  done := by
    intro X hP hw hK hc i pins s σ H E I hf st hg
    subst hP hw hK
    obtain ⟨f0, f1, f2, f3, f4, f5⟩ := hf it (by simp)
    cases b with
    | true => exact wpAny_pyNext_ascii_end (I.ok.hd hc) st hg fun h' eb => ⟨rfl, I.turned (t' := s.toks) (fun b o hb e => eb b o hb e) f0 f1 f3 f4 f5⟩
    | false => exact wpAny_pyNext_wide_end (I.ok.hd hc) st hg fun h' eb => ⟨rfl, I.turned (t' := s.toks) (fun b o hb e => eb b o hb e) f0 f1 f3 f4 f5⟩
  self := fun _ _ _ _ _ st h => by
    cases b with
    | true => exact wpAny_pyIter_striter_ascii st h
    | false => exact wpAny_pyIter_striter_wide st h
def iStr (tl : TE) : TI := fun σ H R => tl σ H fun v H1 => ∃ x, v = .str x ∧ R (Its x) H1
section
variable {X : Cx}
theorem pi_str {tg l : Expr} {tl : TE} (hl : PE X l tl) : PI X tg l (iStr tl) := by
  intro pins s σ H R I h
  refine thn (hl pins s σ H _ I h) fun v s1 ⟨y, H1, I1, r1, x, ey, q⟩ => ?_
  subst ey
  obtain ⟨t, rfl⟩ := r1
  have fin : ∀ b : Bool, PIE X pins σ tg R (.ref s1.heap.objs.size) { s1 with heap := s1.heap.push { cls := .type (if b then "str_ascii_iterator" else "str_iterator"), data := .fields #[.str x t, .int 0 0] } } := by
    intro b
    refine ⟨s1.heap.objs.size, [s1.heap.objs.size], _, _, H1, rfl, I1.kept (t' := s1.toks) fun b o e => Heap.get?_push_of_some _ e, turn_str x t _ b, ⟨_, Heap.get?_push_size _ rfl, rfl, rfl⟩, fun b hb => ?_, q⟩
    have e : b = s1.heap.objs.size := by simpa using hb
    subst e
    exact I1.fpOk (Nat.le_refl _) (I1.hok.fresh (Nat.le_refl _))
  cases ha : x.cps.all (· < 128) with
  | true => exact wpAny_pyIter_ascii ha (fin true)
  | false => exact wpAny_pyIter_wide ha (fin false)
end
/-! ### methods of texts -/
def rPart : V → List V → Hp → VK → Prop := fun z vs H Q => ∃ x y, z = .str x ∧ vs = [.str y] ∧ (y.length == 0) = false ∧ x.length ≤ sizeLine ∧ ∀ p, H p = none → Q (.ref p) (upd H p (.tup [.str (Txt.partition x y).1, .str (Txt.partition x y).2.1, .str (Txt.partition x y).2.2]))
def rSplit : V → List V → Hp → VK → Prop := fun z vs H Q => ∃ x y, z = .str x ∧ vs = [.str y] ∧ (y.length == 0) = false ∧ x.length + 2 ≤ sizeLine ∧ ∀ p, H p = none → Q (.ref p) (upd H p (.lst ((Txt.split x y).map V.str)))
section
variable {X : Cx}
end
end L2
namespace L2
open PySem PySem.Spec PyProof.Rows PySem.W
section
variable {X : Cx}
/-! ### int(text), any and all of bools, text * number -/
theorem truth_bl {prog : Program} {w : World} {A : Around} {b : Bool} {s : Shared} {Q : Bool → Shared → Prop} {E : Value → Shared → Prop} (h : Q b s) : wpAny (model prog w) A (truthy (.bool b)) Q E s := by
  cases b <;> exact wpAny_pure h
theorem range_any {bs : List Bool} : (List.range bs.length).any (fun i => bs.getD i false) = bs.any id := by
  rw [Bool.eq_iff_iff]
  simp only [List.any_eq_true, List.mem_range, id]
  constructor
  · rintro ⟨i, hi, h⟩
    exact ⟨bs[i], List.getElem_mem hi, by simpa [List.getD, hi] using h⟩
  · rintro ⟨b, hb, h⟩
    obtain ⟨i, hi, rfl⟩ := List.getElem_of_mem hb
    exact ⟨i, hi, by simpa [List.getD, hi] using h⟩
theorem range_all {bs : List Bool} : (List.range bs.length).all (fun i => bs.getD i false) = bs.all id := by
  rw [Bool.eq_iff_iff]
  simp only [List.all_eq_true, List.mem_range, id]
  constructor
  · intro h b hb
    obtain ⟨i, hi, rfl⟩ := List.getElem_of_mem hb
    simpa [List.getD, hi] using h i hi
  · intro h i hi
    simpa [List.getD, hi] using h bs[i] (List.getElem_mem hi)
/-- the walk that any and all make over a list of bools -/
theorem walk_bools {pins : List (Addr × Obj)} {σ : St} {H : Hp} {s : Shared} (I : Inv X pins σ H s) (hc : X.calm = true) {p : Addr} {bs : List Bool} (hq : SqL X.K H p (bs.map V.bl)) {E : Value → Shared → Prop} {k : (Nat → Bool) → Nat → Bool} {Q : VK} (q : Q (.bl (k (fun i => bs.getD i false) bs.length)) H) :
    wpAny (model X.prog X.w) X.A.in1 (pyIter (.ref p)) (fun it s₂ => ∃ J fp wr n P St tr, it = .ref J ∧ Walks X.prog X.w X.A.in1 J fp wr n P St ∧ St 0 s₂.heap ∧ TruthOf X.prog X.w X.A.in1 P tr ∧
      ∀ h' tk, (∀ b o, b ∉ wr → s₂.heap.get? b = some o → h'.get? b = some o) → EP X pins σ Q (.bool (k tr n)) { s₂ with heap := h', toks := tk }) E s := by
  obtain ⟨its, rv, pl, hz⟩ := I.list hq
  have hl := rv.length
  rw [List.length_map] at hl
  have ne : p ≠ s.heap.objs.size := by
    obtain ⟨o, n, e, _⟩ := pl
    exact Nat.ne_of_lt (Heap.lt_size e)
  refine wpAny_pyIter_list pl.isList ?_
  have keep : ∀ b o, s.heap.get? b = some o → (s.heap.push { cls := .type "list_iterator", data := .fields #[.ref p, .int 0 0] }).get? b = some o := fun b o e => Heap.get?_push_of_some _ e
  refine ⟨s.heap.objs.size, _, _, _, _, _, fun i => bs.getD i false, rfl, Walks.list (A := X.A.in1) (show X.A.in1.handled = none from I.ok.hd hc) s.heap.objs.size p ne its.toArray, ⟨⟨_, Heap.get?_push_size _ rfl, rfl, rfl⟩, pl.isList.at fun o e => keep p o e⟩, ?_, ?_⟩
  · intro i v s' Q' E' hv hQ
    have hv' : its[i]? = some v := by simpa using hv
    have hi : i < bs.length := by rw [hl]; exact (List.getElem?_eq_some_iff.mp hv').1
    obtain ⟨u, hu, ru⟩ := rv.get (show (bs.map V.bl)[i]? = some (.bl bs[i]) by simp [hi])
    rw [hv'] at hu
    cases hu
    cases ru
    have e : bs.getD i false = bs[i] := by simp [List.getD, hi]
    dsimp only at hQ
    rw [e] at hQ
    exact truth_bl hQ
  · intro h' tk kp
    have J : Inv X pins σ H { s with heap := h', toks := tk } := I.kept (t' := tk) fun b o e => kp b o (by
      have lt := Heap.lt_size e
      intro z
      have z' : b = s.heap.objs.size := by simpa using z
      rw [z'] at lt
      exact Nat.lt_irrefl _ lt) (keep b o e)
    have es : its.toArray.size = bs.length := by rw [List.size_toArray]; omega
    rw [es]
    exact ⟨.bl _, H, J, rfl, q⟩
theorem call_allB (hc : X.calm = true) : CallR X (.builtin "all") (fun xs H Q => ∃ p, ∃ bs : List Bool, xs = [.ref p] ∧ SqL X.K H p (bs.map V.bl) ∧ Q (.bl (bs.all id)) H) := by
  intro pins s σ H xs us Q I r h
  obtain ⟨p, bs, rfl, hq, q⟩ := h
  obtain ⟨u, rfl, rx⟩ := vals1 r
  cases rx
  exact call_all_walk (walk_bools I hc hq (k := fun tr n => (List.range n).all tr) (by rw [range_all]; exact q))
/-! ### text * number, text[a:b] -/
/-! ### a list against the empty one -/
end
end L2

/-! texts of figures, and of amounts, as lists of codes -/
namespace TM
open PySem PySem.NumText
/-- the figures of a number -/
def dg (n : Nat) : List Nat := (Nat.toDigits 10 n).map Char.toNat
/-- figures without a nought ahead of others -/
structure Fig (cs : List Nat) : Prop where
  ne : cs ≠ []
  len : cs.length ≤ 60
  all : AllDigits cs
  no : cs.head? = some 48 → cs.length = 1
/-- the text L writes the amount t / b -/
def Reads (L : List Nat) (t b : Nat) : Prop :=
  (Fig L ∧ t = digitsVal L ∧ b = 1) ∨ ∃ p q, L = p ++ 47 :: q ∧ Fig p ∧ Fig q ∧ t = digitsVal p ∧ b = digitsVal q ∧ 2 ≤ b ∧ Nat.gcd t b = 1
def showL (t b : Nat) : List Nat := if b = 1 then dg t else dg t ++ 47 :: dg b
end TM
namespace TM
open PySem PySem.StrLaws PySem.Builtin PySem.Builtin.Str
abbrev cps (x : Str) : List Nat := x.cps.toList
abbrev sl : Str := ⟨#[47]⟩
theorem cps_append' (x y : Str) : cps (x ++ y) = cps x ++ cps y := by
  show (x.cps ++ y.cps).toList = _
  rw [Array.toList_append]
end TM

namespace L2
open PySem PySem.Spec PyProof.Rows PySem.W
def rCount : V → List V → Hp → VK → Prop := fun x vs H Q => ∃ l xs y, x = .ref l ∧ vs = [y] ∧ H l = some (.lst xs) ∧ flatV y = true ∧ xs.all flatV = true ∧ Q (.int ((xs.countP fun z => eqV z y : Nat) : Int)) H
def rIndex : V → List V → Hp → VK → Prop := fun x vs H Q => ∃ l xs y, ∃ j : Nat, ∃ z, x = .ref l ∧ vs = [y] ∧ H l = some (.lst xs) ∧ flatV y = true ∧ xs.all flatV = true ∧ xs[j]? = some z ∧ eqV z y = true ∧
  (∀ m z, m < j → xs[m]? = some z → eqV z y = false) ∧ Q (.int (j : Int)) H
section
variable {X : Cx}
end
def Nx (n i : Nat) (P : Prop) : Prop := ∃ m', m' < n - i ∧ m' = n - (i + 1) ∧ i + 1 ≤ n ∧ P
theorem Nx.mk {n i : Nat} {P : Prop} (h : i < n) (p : P) : Nx n i P := ⟨n - (i + 1), by omega, rfl, h, p⟩
theorem blkN_none {X : Cx} {scope : Scope} {N' : List Str} {cl : List (Str × Addr)} {σ : St} : BlkN X N' scope cl σ (List.replicate N'.length none) := by
  refine ⟨by simp, fun i x v h1 h2 => ?_⟩
  rw [List.getElem?_replicate] at h2
  split at h2 <;> cases h2
/-- over the signs of a text -/
theorem comp_str {D : Addr} {x : Str} {g : TG} {tt : TT} {te : TE} {σ0 : St} {QD : Hp → Prop} {H1 : Hp} (Pv : Nat → List V → Hp → Prop) (h0 : Pv 0 [] (upd H1 D (.lst [])))
    (hl : ∀ i ys H, i ≤ x.cps.toList.length → Pv i ys H → H D = some (.lst ys) ∧ ys.length < sizeLine)
    (hs : ∀ i c ys H, x.cps.toList[i]? = some c → Pv i ys H → g (.str ⟨#[c]⟩) σ0 H fun σ2 H2 => Keep σ0 σ2 ∧ tt σ2 H2 fun b H3 => if b = true then te σ2 H3 fun y H4 => H4 D = some (.lst ys) ∧ Nx x.cps.toList.length i (Pv (i + 1) (ys ++ [y]) (upd H4 D (.lst (ys ++ [y])))) else Nx x.cps.toList.length i (Pv (i + 1) ys H3))
    (hd : ∀ ys H, Pv x.cps.toList.length ys H → QD H) :
    ∃ W : Nat → Nat → List V → Hp → Prop, (∃ m, W 0 m [] (upd H1 D (.lst []))) ∧
      ∀ i m ys H, W i m ys H → H D = some (.lst ys) ∧ ys.length < sizeLine ∧
        (((Its x).stop i H ∧ QD H) ∨ ((Its x).go i H ∧ ∀ v H', (Its x).yld i H v H' → g v σ0 H' fun σ2 H2 => Keep σ0 σ2 ∧ tt σ2 H2 fun b H3 =>
          if b = true then te σ2 H3 fun y H4 => H4 D = some (.lst ys) ∧ ∃ m', m' < m ∧ W (i + 1) m' (ys ++ [y]) (upd H4 D (.lst (ys ++ [y]))) else ∃ m', m' < m ∧ W (i + 1) m' ys H3)) := by
  refine ⟨fun i m ys H => m = x.cps.toList.length - i ∧ i ≤ x.cps.toList.length ∧ Pv i ys H, ⟨x.cps.toList.length, by simp, Nat.zero_le _, h0⟩, ?_⟩
  rintro i m ys H ⟨rfl, hi, p⟩
  obtain ⟨hD, hz⟩ := hl i ys H hi p
  refine ⟨hD, hz, ?_⟩
  by_cases hlt : i < x.cps.toList.length
  · have e : x.cps[i]? = some x.cps.toList[i] := by rw [← Array.getElem?_toList]; exact List.getElem?_eq_getElem hlt
    refine .inr ⟨⟨_, e⟩, fun v H' y => ?_⟩
    obtain ⟨rfl, c, hc, rfl⟩ := y
    exact hs i c ys _ (by rw [Array.getElem?_toList]; exact hc) p
  · have e : i = x.cps.toList.length := by omega
    subst e
    refine .inl ⟨?_, hd ys H p⟩
    show x.cps[x.cps.toList.length]? = none
    rw [← Array.getElem?_toList]
    exact List.getElem?_eq_none (Nat.le_refl _)
end L2

namespace L2
open PySem PySem.Spec PyProof.Rows
/-! ### an empty dict, of which it is only known that it is one -/
def dcE (a : Addr) : HO := .ext fun h => ∃ o, h.get? a = some o ∧ o.cls = .type "dict"
def tDict0 : TE := fun _ H Q => ∀ p, H p = none → Q (.ref p) (upd H p (dcE p))
section
variable {X : Cx} {pos : Pos}
/-- isinstance against a built-in type, a dict among the things that are asked -/
def IsiD (K : PySem.W.Frag) (H : Hp) (v : V) (T : String) (b : Bool) : Prop := Isi K H v T b ∨ ∃ a, v = .ref a ∧ H a = some (dcE a) ∧ T = "str" ∧ b = false
theorem call_isiZ : CallR X (.builtin "isinstance") (fun xs H Q => ∃ x T b, xs = [x, .ty T] ∧ IsiD X.K H x T b ∧ Q (.bl b) H) := by
  intro pins s σ H xs us Q I r h
  obtain ⟨x, T, b, rfl, hi | ⟨a, rfl, hH, rfl, rfl⟩, q⟩ := h
  · exact call_isi pins s σ H _ us Q I r ⟨x, T, b, rfl, hi, q⟩
  · obtain ⟨u, w', rfl, rx, ry⟩ := vals2 r
    cases ry
    cases rx
    obtain ⟨⟨o, e, c⟩, _⟩ := I.hok a _ hH
    exact IsiPair.dict_str e c ⟨.bl false, H, I.tok _, rfl, q⟩
end
end L2

namespace L2
open PySem PySem.Spec PyProof.Rows
/-! ### == and != of lists -/
def rEqL (K : PySem.W.Frag) : R2 := fun x y H Q => ∃ a b xs ys, ∃ e : Nat → Bool, x = .ref a ∧ y = .ref b ∧ SqL K H a xs ∧ SqL K H b ys ∧ (∀ (j : Nat) x y, xs[j]? = some x → ys[j]? = some y → DEq K H 40 x y (e j)) ∧
  Q (.bl ((List.range (min xs.length ys.length)).all e && xs.length == ys.length)) H
def rNeL (K : PySem.W.Frag) : R2 := fun x y H Q => ∃ a b xs ys, ∃ e : Nat → Bool, x = .ref a ∧ y = .ref b ∧ SqL K H a xs ∧ SqL K H b ys ∧ (∀ (j : Nat) x y, xs[j]? = some x → ys[j]? = some y → DEq K H 40 x y (e j)) ∧
  Q (.bl (!((List.range (min xs.length ys.length)).all e && xs.length == ys.length))) H
section
variable {X : Cx}
theorem op_eqL (hu : X.A.units + 64 < cLine) : OpR X (compareOp .Eq) (rEqL X.K) := by
  intro pins s σ H x y v u Q I rx ry h
  obtain ⟨a, b, xs, ys, e, rfl, rfl, hx, hy, hd, q⟩ := h
  cases rx; cases ry
  exact lsts_at I hx hy (by omega) (fun j x y u v h1 h2 r1 r2 => (hd j x y h1 h2).at I (by show X.A.units + 1 + 40 < cLine; omega) r1 r2) X.prog X.w X.xe _ ⟨.bl _, H, I, rfl, q⟩
theorem nels_at {pins : List (Addr × Obj)} {σ : St} {H : Hp} {s : Shared} (I : Inv X pins σ H s) {A : Around} {a b : Addr} {xs ys : List V} {e : Nat → Bool} (hx : SqL X.K H a xs) (hy : SqL X.K H b ys) (hu : A.units < cLine)
    (hd : ∀ (j : Nat) x y u v, xs[j]? = some x → ys[j]? = some y → RelV x u → RelV y v → SeqAt.EqAt A.in1 s u v (e j)) :
    SeqAt.RcNeAt A s (.ref a) (.ref b) (!((List.range (min xs.length ys.length)).all e && xs.length == ys.length)) := by
  obtain ⟨its, r, tx, _⟩ := I.list hx
  obtain ⟨its', r', ty, _⟩ := I.list hy
  have l1 := r.length
  have l2 := r'.length
  by_cases hl : xs.length = ys.length
  · have q := SeqAt.RcNeAt.lists (A := A) (e := e) (isList_of tx) (isList_of ty) (by rw [List.size_toArray, List.size_toArray]; omega) hu (fun j h1 h2 => ?_)
    · rw [List.size_toArray, ← l1] at q
      have e1 : ((List.range (min xs.length ys.length)).all e && xs.length == ys.length) = (List.range xs.length).all e := by
        rw [← hl, Nat.min_self, beq_self_eq_true, Bool.and_true]
      rw [e1]
      exact q
    · rw [List.size_toArray] at h1 h2
      obtain ⟨x, hxj⟩ : ∃ x, xs[j]? = some x := ⟨_, List.getElem?_eq_getElem (by omega)⟩
      obtain ⟨y, hyj⟩ : ∃ y, ys[j]? = some y := ⟨_, List.getElem?_eq_getElem (by omega)⟩
      obtain ⟨u1, hu1, ru1⟩ := r.get hxj
      obtain ⟨u2, hu2, ru2⟩ := r'.get hyj
      have e1 : its.toArray[j] = u1 := by
        have := (List.getElem?_eq_some_iff.mp hu1).2
        simpa using this
      have e2 : its'.toArray[j] = u2 := by
        have := (List.getElem?_eq_some_iff.mp hu2).2
        simpa using this
      rw [e1, e2]
      exact hd j x y u1 u2 hxj hyj ru1 ru2
  · have q := SeqAt.RcNeAt.lists_lengths (A := A) (isList_of tx) (isList_of ty) (by rw [List.size_toArray, List.size_toArray, ← l1, ← l2, bne_iff_ne]; exact hl) hu
    have e1 : ((List.range (min xs.length ys.length)).all e && xs.length == ys.length) = false := by
      rw [beq_eq_false_iff_ne.mpr hl, Bool.and_false]
    rw [e1]
    exact q
theorem op_neL (hu : X.A.units + 64 < cLine) : OpR X (compareOp .NotEq) (rNeL X.K) := by
  intro pins s σ H x y v u Q I rx ry h
  obtain ⟨a, b, xs, ys, e, rfl, rfl, hx, hy, hd, q⟩ := h
  cases rx; cases ry
  exact nels_at I hx hy (by omega) (fun j x y u v h1 h2 r1 r2 => (hd j x y h1 h2).at I (by show X.A.units + 1 + 40 < cLine; omega) r1 r2) X.prog X.w X.xe _ ⟨.bl _, H, I, rfl, q⟩
end
/-- a value that equals itself at sight -/
def Sf (v : V) : Prop := flatV v = true ∨ ∃ a, v = .ref a
theorem eqV_self {v : V} (h : flatV v = true) : eqV v v = true := by
  cases v <;> simp_all [flatV, eqV]
theorem DEq.self {K : PySem.W.Frag} {H : Hp} {n : Nat} {v : V} (h : Sf v) : DEq K H n v v true := by
  rcases h with h | ⟨a, rfl⟩
  · have := DEq.flat (K := K) (H := H) (n := n) h h
    rwa [eqV_self h] at this
  · exact .same
theorem all_true (n : Nat) (m : Nat) (h : n = m) : ((List.range (min n m)).all (fun _ => true) && n == m) = true := by
  subst h
  rw [beq_self_eq_true, Bool.and_true, List.all_eq_true]
  exact fun _ _ => rfl
/-- two lists of the same things -/
def rNeLs (K : PySem.W.Frag) : R2 := fun x y H Q => ∃ a b xs, x = .ref a ∧ y = .ref b ∧ SqL K H a xs ∧ SqL K H b xs ∧ (∀ v ∈ xs, Sf v) ∧ Q (.bl false) H
end L2

namespace L2
open PySem PySem.Spec PyProof.Rows
/-! ### the tuples stay -/
def Tk (H H' : Hp) : Prop := ∀ b ys, H b = some (.tup ys) → H' b = some (.tup ys)
theorem Same.tk {H H' : Hp} (s : Same H H') : Tk H H' := fun b ys e => s b _ e
theorem Tk.lst {H : Hp} {l : Addr} {xs : List V} {o : HO} (h : H l = some (.lst xs)) : Tk H (upd H l o) := fun b ys e => by
  have ne : b ≠ l := fun z => by rw [z, h] at e; cases e
  rw [upd_ne ne]
  exact e
theorem sz1000 {n : Nat} (h : n ≤ 1000) : n ≤ sizeLine := Nat.le_trans h (by decide)
/-! ### displays of many elements -/
def starFree : Expr → Bool
  | .Starred .. => false
  | _ => true
end L2

namespace L2
open PySem PySem.Spec PyProof.Rows
/-! ### what a value tells: flat things, and tuples of such, at any depth -/
inductive Dt where
  | i (n : Int)
  | s (x : Str)
  | b (k : Bool)
  | n
  | t (l : List Dt)
/-- a tuple that nothing changes: one of the heap, or of the module -/
def SqZ (K : PySem.W.Frag) (H : Hp) (a : Addr) (xs : List V) : Prop := H a = some (.tup xs) ∨ ∃ (o : Obj) (its : Array Value) (n : Nat), K.lookup a = some o ∧ o.cls = .type "tuple" ∧ o.data = .seq its n ∧ its.size ≤ sizeLine ∧ Vals xs its.toList
theorem SqZ.of {K : PySem.W.Frag} {H : Hp} {a : Addr} {xs : List V} (h : H a = some (.tup xs)) : SqZ K H a xs := .inl h
theorem SqZ.sq {K : PySem.W.Frag} {H : Hp} {a : Addr} {xs : List V} (h : SqZ K H a xs) : SqT K H a xs := by
  rcases h with h | h
  · exact .inl (.inl h)
  · exact .inr h
theorem Tk.sqz {K : PySem.W.Frag} {H H' : Hp} {a : Addr} {xs : List V} (e : Tk H H') (h : SqZ K H a xs) : SqZ K H' a xs := by
  rcases h with h | h
  · exact .inl (e _ _ h)
  · exact .inr h
inductive Dv (K : PySem.W.Frag) (H : Hp) : Nat → V → Dt → Prop where
  | i {n m} : Dv K H n (.int m) (.i m)
  | s {n x} : Dv K H n (.str x) (.s x)
  | b {n k} : Dv K H n (.bl k) (.b k)
  | n {n} : Dv K H n .non .n
  | t {n a xs ds} : SqZ K H a xs → xs.length = ds.length → (∀ (j : Nat) x d, xs[j]? = some x → ds[j]? = some d → Dv K H n x d) → Dv K H (n + 1) (.ref a) (.t ds)
theorem Dv.keep {K : PySem.W.Frag} {H H' : Hp} {n : Nat} {v : V} {d : Dt} (h : Dv K H n v d) (k : Tk H H') : Dv K H' n v d := by
  induction h with
  | i => exact .i
  | s => exact .s
  | b => exact .b
  | n => exact .n
  | t h1 h2 _ ih => exact .t (k.sqz h1) h2 ih
theorem Dv.up {K : PySem.W.Frag} {H : Hp} {n : Nat} {v : V} {d : Dt} (h : Dv K H n v d) : Dv K H (n + 1) v d := by
  induction h with
  | i => exact .i
  | s => exact .s
  | b => exact .b
  | n => exact .n
  | t h1 h2 _ ih => exact .t h1 h2 ih
theorem Dv.mono {K : PySem.W.Frag} {H : Hp} {n m : Nat} {v : V} {d : Dt} (h : Dv K H n v d) (hm : n ≤ m) : Dv K H m v d := by
  induction hm with
  | refl => exact h
  | step _ ih => exact ih.up
theorem Dv.eq {K : PySem.W.Frag} {H : Hp} {n : Nat} {x : V} {d : Dt} (h : Dv K H n x d) : ∀ {m : Nat} {y : V}, Dv K H m y d → DEq K H n x y true := by
  induction h with
  | i => intro m y k; cases k; exact DEq.self (.inl rfl)
  | s => intro m y k; cases k; exact DEq.self (.inl rfl)
  | b => intro m y k; cases k; exact DEq.self (.inl rfl)
  | n => intro m y k; cases k; exact DEq.self (.inl rfl)
  | @t n a xs ds h1 h2 h3 ih =>
    intro m y k
    cases k with
    | @t m b ys _ k1 k2 k3 =>
      by_cases e : a = b
      · subst e
        exact .same
      · have q := DEq.tup (n := n) (e := fun _ => true) e h1.sq k1.sq fun j x y hx hy => ?_
        · rwa [all_true _ _ (h2.trans k2.symm)] at q
        · obtain ⟨d, hd⟩ : ∃ d, ds[j]? = some d := ⟨_, List.getElem?_eq_getElem (by have := (List.getElem?_eq_some_iff.mp hx).1; omega)⟩
          exact ih j x d hx hd (k3 j y d hy hd)
/-- lists of such things -/
def DL (K : PySem.W.Frag) (H : Hp) (n : Nat) (xs : List V) (ds : List Dt) : Prop := xs.length = ds.length ∧ ∀ (j : Nat) x d, xs[j]? = some x → ds[j]? = some d → Dv K H n x d
theorem DL.nil {K : PySem.W.Frag} {H : Hp} {n : Nat} : DL K H n [] [] := ⟨rfl, fun j x d h => by simp at h⟩
theorem DL.keep {K : PySem.W.Frag} {H H' : Hp} {n : Nat} {xs : List V} {ds : List Dt} (h : DL K H n xs ds) (k : Tk H H') : DL K H' n xs ds := ⟨h.1, fun j x d hx hd => (h.2 j x d hx hd).keep k⟩
theorem DL.cons {K : PySem.W.Frag} {H : Hp} {n : Nat} {x : V} {d : Dt} {xs : List V} {ds : List Dt} (h : Dv K H n x d) (k : DL K H n xs ds) : DL K H n (x :: xs) (d :: ds) := by
  refine ⟨by rw [List.length_cons, List.length_cons, k.1], fun j y e hy he => ?_⟩
  cases j with
  | zero =>
    simp at hy he
    subst hy he
    exact h
  | succ j => exact k.2 j y e (by simpa using hy) (by simpa using he)
theorem Dv.tup {K : PySem.W.Frag} {H : Hp} {n : Nat} {a : Addr} {xs : List V} {ds : List Dt} (h : SqZ K H a xs) (k : DL K H n xs ds) : Dv K H (n + 1) (.ref a) (.t ds) := .t h k.1 k.2
theorem Dv.two {K : PySem.W.Frag} {H : Hp} {n : Nat} {a : Addr} {x y : V} {d e : Dt} (h : SqZ K H a [x, y]) (h1 : Dv K H n x d) (h2 : Dv K H n y e) : Dv K H (n + 1) (.ref a) (.t [d, e]) := .tup h (.cons h1 (.cons h2 .nil))
/-- the same list of things, told twice -/
def rEqDL (K : PySem.W.Frag) : R2 := fun x y H Q => ∃ a b xs ys ds, x = .ref a ∧ y = .ref b ∧ SqL K H a xs ∧ SqL K H b ys ∧ DL K H 40 xs ds ∧ DL K H 40 ys ds ∧ Q (.bl true) H
def rNeDL (K : PySem.W.Frag) : R2 := fun x y H Q => ∃ a b xs ys ds, x = .ref a ∧ y = .ref b ∧ SqL K H a xs ∧ SqL K H b ys ∧ DL K H 40 xs ds ∧ DL K H 40 ys ds ∧ Q (.bl false) H
def rEqDT (K : PySem.W.Frag) : R2 := fun x y H Q => ∃ a b xs ys ds, x = .ref a ∧ y = .ref b ∧ SqT K H a xs ∧ SqT K H b ys ∧ DL K H 40 xs ds ∧ DL K H 40 ys ds ∧ Q (.bl true) H
def rNeDT (K : PySem.W.Frag) : R2 := fun x y H Q => ∃ a b xs ys ds, x = .ref a ∧ y = .ref b ∧ SqT K H a xs ∧ SqT K H b ys ∧ DL K H 40 xs ds ∧ DL K H 40 ys ds ∧ Q (.bl false) H
theorem DL.deq {K : PySem.W.Frag} {H : Hp} {n m : Nat} {xs ys : List V} {ds : List Dt} (h : DL K H n xs ds) (k : DL K H m ys ds) : ∀ (j : Nat) x y, xs[j]? = some x → ys[j]? = some y → DEq K H n x y true := fun j x y hx hy => by
  obtain ⟨d, hd⟩ : ∃ d, ds[j]? = some d := ⟨_, List.getElem?_eq_getElem (by have := (List.getElem?_eq_some_iff.mp hx).1; have := h.1; omega)⟩
  exact (h.2 j x d hx hd).eq (k.2 j y d hy hd)
section
variable {X : Cx}
theorem op_eqDL (hu : X.A.units + 64 < cLine) : OpR X (compareOp .Eq) (rEqDL X.K) := by
  intro pins s σ H x y v u Q I rx ry h
  obtain ⟨a, b, xs, ys, ds, rfl, rfl, hx, hy, k1, k2, q⟩ := h
  refine op_eqL hu pins s σ H _ _ v u Q I rx ry ⟨a, b, xs, ys, fun _ => true, rfl, rfl, hx, hy, k1.deq k2, ?_⟩
  rw [all_true _ _ (k1.1.trans k2.1.symm)]
  exact q
theorem op_neDL (hu : X.A.units + 64 < cLine) : OpR X (compareOp .NotEq) (rNeDL X.K) := by
  intro pins s σ H x y v u Q I rx ry h
  obtain ⟨a, b, xs, ys, ds, rfl, rfl, hx, hy, k1, k2, q⟩ := h
  refine op_neL hu pins s σ H _ _ v u Q I rx ry ⟨a, b, xs, ys, fun _ => true, rfl, rfl, hx, hy, k1.deq k2, ?_⟩
  rw [all_true _ _ (k1.1.trans k2.1.symm)]
  exact q
end
end L2

namespace L2
open PySem PySem.Spec PyProof.Rows
/-! ### a comprehension that takes names over -/
theorem closure_go {env : Env} : ∀ (names : List (Str × NameKind)) (acc : List (Str × Addr)), (∀ y ∈ names, y.2 = NameKind.free → ∃ c, env.cells.lookup y.1 = some c) → (∀ x c, acc.lookup x = some c → env.cells.lookup x = some c) →
    ∃ cl, (forIn (m := Sem) names acc (fun x r => do if (x.2 == NameKind.free) = true then do let c ← cellOf env x.1; pure (ForInStep.yield ((x.1, c) :: r)) else pure (ForInStep.yield r))) = pure cl ∧
      (∀ x c, cl.lookup x = some c → env.cells.lookup x = some c) ∧ (∀ y ∈ names, y.2 = NameKind.free → ∃ c, cl.lookup y.1 = some c) ∧ ∀ x, (∃ c, acc.lookup x = some c) → ∃ c, cl.lookup x = some c
  | [], acc, _, h2 => ⟨acc, rfl, h2, (fun y hy => by simp at hy), fun _ h => h⟩
  | y :: r, acc, h1, h2 => by
    by_cases e : y.2 = NameKind.free
    · obtain ⟨c, hc⟩ := h1 y List.mem_cons_self e
      obtain ⟨cl, e1, e2, e3, e4⟩ := closure_go r ((y.1, c) :: acc) (fun z hz => h1 z (List.mem_cons_of_mem _ hz)) (fun x d hx => by
        rw [List.lookup_cons] at hx
        split at hx
        · rename_i hb
          have : x = y.1 := eq_of_beq hb
          rw [this, hc]
          exact hx
        · exact h2 x d hx)
      refine ⟨cl, ?_, e2, fun z hz ez => ?_, fun x hx => e4 x ?_⟩
      · rw [List.forIn_cons, if_pos (by rw [e]; rfl)]
        unfold cellOf
        rw [hc]
        simp only [pure_bind]
        exact e1
      · rcases List.mem_cons.mp hz with rfl | hz
        · exact e4 z.1 ⟨c, by rw [List.lookup_cons, beq_self_eq_true]⟩
        · exact e3 z hz ez
      · obtain ⟨d, hd⟩ := hx
        rw [List.lookup_cons]
        split
        · exact ⟨c, rfl⟩
        · exact ⟨d, hd⟩
    · obtain ⟨cl, e1, e2, e3, e4⟩ := closure_go r acc (fun z hz => h1 z (List.mem_cons_of_mem _ hz)) h2
      refine ⟨cl, ?_, e2, fun z hz ez => ?_, e4⟩
      · rw [List.forIn_cons, if_neg (by intro z; exact e (eq_of_beq z))]
        simp only [pure_bind]
        exact e1
      · rcases List.mem_cons.mp hz with rfl | hz
        · exact absurd ez e
        · exact e3 z hz ez
theorem closure_ok {scope : Scope} {env : Env} (h : ∀ y ∈ scope.names, y.2 = NameKind.free → ∃ c, env.cells.lookup y.1 = some c) :
    ∃ cl, closureFor scope env = pure cl ∧ (∀ x c, cl.lookup x = some c → env.cells.lookup x = some c) ∧ ∀ y ∈ scope.names, y.2 = NameKind.free → ∃ c, cl.lookup y.1 = some c := by
  obtain ⟨cl, e1, e2, e3, _⟩ := closure_go (env := env) scope.names [] h (fun x c e => by simp at e)
  refine ⟨cl, ?_, e2, e3⟩
  simp only [closureFor]
  rw [show (forIn (m := Sem) scope.names [] fun x r => if (x.2 == NameKind.free) = true then (do let c ← cellOf env x.1; pure (ForInStep.yield ((x.1, c) :: r))) else pure (ForInStep.yield r)) = pure cl from e1]
  rfl
theorem relabel_from {scope : Scope} {env : Env} {x : Str} (hc : ∀ y ∈ scope.names, y.2 ≠ NameKind.cell) (h : (relabel scope env).names.lookup x = some .cell ∨ (relabel scope env).names.lookup x = some .free) : ∃ y ∈ scope.names, y.1 = x ∧ y.2 = NameKind.free := by
  have e' : ∃ k, (k = NameKind.cell ∨ k = NameKind.free) ∧ (relabel scope env).names.lookup x = some k := by
    rcases h with e | e
    · exact ⟨_, .inl rfl, e⟩
    · exact ⟨_, .inr rfl, e⟩
  obtain ⟨k, hk, e⟩ := e'
  have hm := PySem.mem_of_lookup e
  obtain ⟨y, hy, hy2⟩ := List.mem_map.mp hm
  obtain ⟨n, kk⟩ := y
  have hn := hc _ hy
  simp only at hy2 hn
  split at hy2
  · rename_i hf
    injection hy2 with a1 a2
    subst a1
    simp only [Bool.and_eq_true] at hf
    exact ⟨(n, kk), hy, rfl, eq_of_beq hf.1.1⟩
  · injection hy2 with a1 a2
    subst a1 a2
    rcases hk with rfl | rfl
    · exact absurd rfl hn
    · exact ⟨_, hy, rfl, rfl⟩
theorem clOk_of {X : Cx} (ok : X.Ok) {scope : Scope} (hc : ∀ y ∈ scope.names, y.2 ≠ NameKind.cell) (h : ∀ y ∈ scope.names, y.2 = NameKind.free → X.env.kindOf y.1 = some .cell ∨ X.env.kindOf y.1 = some .free) : ∃ cl, ClOk X scope cl := by
  obtain ⟨cl, e1, e2, e3⟩ := closure_ok (scope := scope) (env := X.env) fun y hy ey => ok.has y.1 (h y hy ey)
  refine ⟨cl, e1, e2, fun x hx => ?_⟩
  obtain ⟨y, hy, rfl, ey⟩ := relabel_from hc hx
  exact e3 y hy ey
theorem pe_compC {X : Cx} {elt tg iter : Expr} {ifs : List Expr} {scope : Scope} {pos : Pos} {N' : List Str} {wi : TI} {g : TG} {tt : TT} {te : TE} (σf : St → St)
    (hc : X.calm = true) (hkind : scope.kind = .function) (hcell : ∀ y ∈ scope.names, y.2 ≠ .cell) (hnames : ∀ y ∈ scope.names, y.2 = .local → scope.names.lookup y.1 = some .local)
    (hk : ∀ y ∈ scope.names, y.2 = NameKind.free → X.env.kindOf y.1 = some .cell ∨ X.env.kindOf y.1 = some .free)
    (hN : ∀ cl (σ : St), σ.length = X.N.length → BlkN X N' scope cl σ (σf σ)) (hi : PI X tg iter wi)
    (hg : ∀ cl C s₀ H₀ ex pn, PG (blk X N' scope cl C s₀ H₀ ex pn) tg g) (ht : ∀ cl C s₀ H₀ ex pn, PIfs (blk X N' scope cl C s₀ H₀ ex pn) ifs tt) (he : ∀ cl C s₀ H₀ ex pn, PE (blk X N' scope cl C s₀ H₀ ex pn) elt te)
    (hs : ∀ x, foldedSetIterable iter X.env x = pure x := by intro _; rfl) : PE X (.ListComp elt [⟨tg, iter, ifs, 0⟩] scope pos) (tComp σf wi g tt te) := by
  intro pins s σ H Q I h
  obtain ⟨cl, hcl⟩ := clOk_of I.ok hcell hk
  exact pe_comp σf hc hkind hcell hnames hcl (hN cl) hi (hg cl) (ht cl) (he cl) hs pins s σ H Q I h
/-- the names that are taken over: free in the block, cells of the frame -/
theorem hk_of {X : Cx} {scope sc : Scope} (hs : X.env.scope = sc) (h : (scope.names.all fun y => y.2 != NameKind.free || sc.names.lookup y.1 == some NameKind.cell || sc.names.lookup y.1 == some NameKind.free) = true) :
    ∀ y ∈ scope.names, y.2 = NameKind.free → X.env.kindOf y.1 = some .cell ∨ X.env.kindOf y.1 = some .free := fun y hy ey => by
  have q := List.all_eq_true.mp h y hy
  unfold Env.kindOf
  rw [hs]
  rw [ey] at q
  simp only [bne_self_eq_false, Bool.false_or, Bool.or_eq_true] at q
  rcases q with q | q
  · exact .inl (eq_of_beq q)
  · exact .inr (eq_of_beq q)
theorem lookup_relabel_free {env : Env} {x : Str} (hk : env.scope.kind = .function) (hx : env.kindOf x = some .cell) : ∀ {names : List (Str × NameKind)}, names.lookup x = some .free →
    (names.map fun (n, k) => if (k == NameKind.free && env.scope.kind == .function && env.kindOf n == some .cell) then (n, NameKind.cell) else (n, k)).lookup x = some .cell
  | [], h => by simp at h
  | (n, k) :: r, h => by
    rw [List.map_cons]
    rw [List.lookup_cons] at h
    by_cases e : (x == n) = true
    · rw [e] at h
      have e' : x = n := eq_of_beq e
      subst e'
      have hf : k = NameKind.free := Option.some.inj h
      subst hf
      have c : (NameKind.free == NameKind.free && env.scope.kind == .function && env.kindOf x == some .cell) = true := by rw [hk, hx]; rfl
      rw [show (match ((x, NameKind.free) : Str × NameKind) with | (n, k) => if (k == NameKind.free && env.scope.kind == .function && env.kindOf n == some .cell) = true then (n, NameKind.cell) else (n, k)) = (x, NameKind.cell) from if_pos c]
      rw [List.lookup_cons, beq_self_eq_true]
    · have e0 : (x == n) = false := by simpa using e
      rw [e0] at h
      have ih := lookup_relabel_free hk hx h
      have en : ∀ q : Str × NameKind, q.1 = n → (q :: (r.map fun (n, k) => if (k == NameKind.free && env.scope.kind == .function && env.kindOf n == some .cell) then (n, NameKind.cell) else (n, k))).lookup x = some .cell := fun q hq => by
        obtain ⟨q1, q2⟩ := q
        simp only at hq
        subst hq
        rw [List.lookup_cons, e0]
        exact ih
      refine en _ ?_
      show (if _ then (n, NameKind.cell) else (n, k)).1 = n
      split <;> rfl
theorem blkN_by {X : Cx} {N' N : List Str} {scope sc : Scope} {cl : List (Str × Addr)} {σ : St} (ts : List (Option Nat)) (hN : X.N = N) (hsc : X.env.scope = sc) (hl : ts.length = N'.length) (hk : sc.kind = .function)
    (h : ((ts.zip N').all fun p => match p.1 with | none => true | some j => N[j]? == some p.2 && sc.names.lookup p.2 == some NameKind.cell && scope.names.lookup p.2 == some NameKind.free) = true) :
    BlkN X N' scope cl σ (ts.map fun t => t.bind fun j => (σ[j]?).join) := by
  refine ⟨by rw [List.length_map, hl], fun i x v h1 h2 => ?_⟩
  rw [List.getElem?_map] at h2
  cases ht : ts[i]? with
  | none => rw [ht] at h2; cases h2
  | some t =>
    rw [ht] at h2
    have h2' : (t.bind fun j => (σ[j]?).join) = some v := Option.some.inj h2
    cases t with
    | none => cases h2'
    | some j =>
      have hm : (some j, x) ∈ ts.zip N' := List.mem_of_getElem? (by rw [List.getElem?_zip_eq_some]; exact ⟨ht, h1⟩ : (ts.zip N')[i]? = some (some j, x))
      have q := List.all_eq_true.mp h _ hm
      simp only [Bool.and_eq_true] at q
      obtain ⟨⟨q1, q2⟩, q3⟩ := q
      have q1' := eq_of_beq q1
      have q2' := eq_of_beq q2
      have q3' := eq_of_beq q3
      have kd : X.env.kindOf x = some .cell := by
        unfold Env.kindOf
        rw [hsc]
        exact q2'
      refine ⟨j, by rw [hN]; exact q1', ?_, by rw [hsc]; exact .inr (.inl q2'), (by rw [kd]; decide), .inl (lookup_relabel_free (by rw [hsc]; exact hk) kd q3')⟩
      have h3 : (σ[j]?).join = some v := h2'
      cases hj : σ[j]? with
      | none => rw [hj] at h3; cases h3
      | some o => rw [hj] at h3; cases o with
        | none => cases h3
        | some u => cases h3; rfl
end L2

namespace L2
open PySem PySem.Spec PyProof.Rows
/-! ### name = [ .. for .. ]: the name is stored ahead of the block's end -/
end L2

namespace L2
open PySem PySem.Spec PyProof.Rows
/-! ### comprehensions, by what each element is -/
/-- an iterator that gives the things xs, as long as the heap only grows -/
structure Ys (J : It) (xs : List V) (H1 : Hp) : Prop where
  go : ∀ i H, Same H1 H → i < xs.length → J.go i H
  yld : ∀ i H x H', Same H1 H → i < xs.length → J.yld i H x H' → H' = H ∧ xs[i]? = some x
  stop : ∀ i H, Same H1 H → xs.length ≤ i → J.stop i H
theorem Ys.tup {K : PySem.W.Frag} {a : Addr} {xs : List V} {H1 : Hp} (h : SqT K H1 a xs) : Ys (Itt K a) xs H1 where
  go := fun i H s hi => ⟨xs, xs[i], s.tup h, List.getElem?_eq_getElem hi⟩
  yld := fun i H x H' s _ y => ⟨y.1, y.2 xs (s.tup h)⟩
  stop := fun i H s hi => ⟨xs, s.tup h, hi⟩
def rngV (lo : Int) (n : Nat) : List V := (List.range n).map fun (i : Nat) => V.int (lo + (i : Int))
theorem rngV_len (lo : Int) (n : Nat) : (rngV lo n).length = n := by unfold rngV; rw [List.length_map, List.length_range]
theorem rngV_get {lo : Int} {n i : Nat} {x : V} (h : (rngV lo n)[i]? = some x) : i < n ∧ x = .int (lo + i) := by
  have hi : i < n := by rw [← rngV_len lo n]; exact (List.getElem?_eq_some_iff.mp h).1
  unfold rngV at h
  rw [List.getElem?_map, List.getElem?_range hi] at h
  exact ⟨hi, (Option.some.inj h).symm⟩
theorem Ys.rng {lo : Int} {n : Nat} {H1 : Hp} : Ys (Itr lo n) (rngV lo n) H1 where
  go := fun i H _ hi => by rw [rngV_len] at hi; exact hi
  yld := fun i H x H' _ hi y => ⟨y.1, by
    obtain ⟨_, rfl⟩ := y
    rw [rngV_len] at hi
    unfold rngV
    rw [List.getElem?_map, List.getElem?_range hi]
    rfl⟩
  stop := fun i H _ hi => by rw [rngV_len] at hi; exact hi
theorem snoc_get {α : Type} {ys : List α} {y z : α} {j : Nat} (h : (ys ++ [y])[j]? = some z) : (j < ys.length ∧ ys[j]? = some z) ∨ (j = ys.length ∧ z = y) := by
  by_cases hj : j < ys.length
  · rw [List.getElem?_append_left hj] at h
    exact .inl ⟨hj, h⟩
  · rw [List.getElem?_append_right (by omega)] at h
    have e0 : j - ys.length = 0 := by
      cases hz : j - ys.length with
      | zero => rfl
      | succ n => rw [hz] at h; simp at h
    rw [e0] at h
    exact .inr ⟨by omega, by simpa using h.symm⟩
theorem comp_rel {J : It} {xs : List V} {D : Addr} {g : TG} {te : TE} {σ0 : St} {QD : Hp → Prop} {H1 : Hp} (Y : Ys J xs H1) (Pr : Nat → V → V → Hp → Prop) (hP : ∀ i x y H H', Pr i x y H → Tk H H' → Pr i x y H') (hD : H1 D = none) (hl : xs.length ≤ 1000)
    (hs : ∀ i x H' (R : VK), xs[i]? = some x → Same H1 H' → (∀ y H4, Same H' H4 → Pr i x y H4 → R y H4) → g x σ0 H' fun σ2 H2 => Keep σ0 σ2 ∧ te σ2 H2 R)
    (hd : ∀ ys H', Same H1 H' → H' D = some (.lst ys) → ys.length = xs.length → (∀ i x y, xs[i]? = some x → ys[i]? = some y → Pr i x y H') → QD H') :
    ∃ W : Nat → Nat → List V → Hp → Prop, (∃ m, W 0 m [] (upd H1 D (.lst []))) ∧ ∀ i m ys H, W i m ys H → H D = some (.lst ys) ∧ ys.length < sizeLine ∧
      ((J.stop i H ∧ QD H) ∨ (J.go i H ∧ ∀ x H', J.yld i H x H' → g x σ0 H' fun σ2 H2 => Keep σ0 σ2 ∧ tNoIf σ2 H2 fun b H3 =>
        if b = true then te σ2 H3 fun y H4 => H4 D = some (.lst ys) ∧ ∃ m', m' < m ∧ W (i + 1) m' (ys ++ [y]) (upd H4 D (.lst (ys ++ [y]))) else ∃ m', m' < m ∧ W (i + 1) m' ys H3)) := by
  refine ⟨fun i m ys H => m = xs.length - i ∧ i ≤ xs.length ∧ Same H1 H ∧ H D = some (.lst ys) ∧ ys.length = i ∧ ∀ j x y, xs[j]? = some x → ys[j]? = some y → Pr j x y H,
    ⟨_, rfl, Nat.zero_le _, Same.upd hD, upd_same, rfl, fun j x y _ h => by simp at h⟩, ?_⟩
  rintro i m ys H ⟨rfl, hi, sm, hDH, yl, pr⟩
  refine ⟨hDH, small1000 (by omega), ?_⟩
  by_cases hlt : i < xs.length
  · refine .inr ⟨Y.go i H sm hlt, fun x H' y => ?_⟩
    obtain ⟨rfl, hx⟩ := Y.yld i H x H' sm hlt y
    refine hs i x H' _ hx sm fun y H4 s4 py => ?_
    have hD4 := s4 _ _ hDH
    have tk : Tk H4 (upd H4 D (.lst (ys ++ [y]))) := Tk.lst hD4
    refine ⟨hD4, xs.length - (i + 1), by omega, rfl, hlt, fun b o hb => ?_, upd_same, by rw [List.length_append, yl]; rfl, fun j x' y' hx' hy' => ?_⟩
    · rw [upd_ne (ne_of_none hb hD)]
      exact s4 _ _ (sm _ _ hb)
    · rcases snoc_get hy' with ⟨_, hy'⟩ | ⟨e, e'⟩
      · exact hP _ _ _ _ _ (hP _ _ _ _ _ (pr j x' y' hx' hy') (Same.tk s4)) tk
      · subst e'
        have : j = i := by omega
        subst this
        rw [hx] at hx'
        cases hx'
        exact hP _ _ _ _ _ py tk
  · have e : i = xs.length := by omega
    subst e
    exact .inl ⟨Y.stop _ H sm (Nat.le_refl _), hd ys H sm hDH yl pr⟩
/-! ### rules within a comprehension: the module is named, so that the reading does not hang on the block -/
theorem ix_tupK {X : Cx} {K : PySem.W.Frag} (h : X.K = K) : IxR X (rIxT K) := h ▸ ix_tup
end L2

namespace L2
open PySem PySem.Spec PyProof.Rows
/-! ### zip of a tuple and a list -/
section
variable {prog : Program} {w : World} {A : Around} {E : Value → Shared → Prop} {s : Shared}
/-- the objects of a zip are apart -/
structure Ap (z TI TO i1 i2 : Addr) (f1 f2 : List Addr) : Prop where
  a1 : ∀ b ∈ f1, b ≠ z ∧ b ≠ TO ∧ b ≠ i2
  a2 : ∀ b ∈ f2, b ≠ z ∧ b ≠ TO ∧ b ≠ i1
  m1 : i1 ∈ f1
  m2 : i2 ∈ f2
  tz : TI ≠ z
  tO : TI ≠ TO
  t1 : TI ≠ i1
  t2 : TI ≠ i2
  oz : TO ≠ z
section
variable {z TI TO i1 i2 : Addr} {f1 f2 : List Addr} {n1 n2 k : Nat} {P1 P2 : Nat → Value → Prop} {S1 S2 : Nat → Heap → Prop} {a b : Value}
end
end
/-- the i-th items of a tuple and of a list, in a new tuple -/
def Itz (K : PySem.W.Frag) (a b : Addr) : It :=
  ⟨fun i H => ∃ xs ys, SqT K H a xs ∧ SqL K H b ys ∧ i < xs.length ∧ i < ys.length,
   fun i H v H' => ∃ T, H T = none ∧ v = .ref T ∧ ∀ xs ys, SqT K H a xs → SqL K H b ys → ∃ x y, xs[i]? = some x ∧ ys[i]? = some y ∧ H' = upd H T (.tup [x, y]),
   fun i H => ∃ xs ys, SqT K H a xs ∧ SqL K H b ys ∧ (i = xs.length ∨ (i < xs.length ∧ i = ys.length))⟩
/-- a zip's objects, laid one behind another from n on -/
def ZipSt (n a b : Nat) (i : Nat) (h : Heap) : Prop := IsZip h (n + 4) (n + 2) (n + 3) .none ∧ IsPair h (n + 2) (.ref n) (.ref (n + 1)) ∧ (∃ x y, IsPair h (n + 3) x y) ∧ h.IsTupleIter n a i ∧ h.IsListIter (n + 1) b i
abbrev zo1 (h : Heap) (a : Addr) : Heap := h.push { cls := .type "tuple_iterator", data := .fields #[.ref a, .int 0 0] }
abbrev zo2 (h : Heap) (a b : Addr) : Heap := (zo1 h a).push { cls := .type "list_iterator", data := .fields #[.ref b, .int 0 0] }
abbrev zo3 (h : Heap) (a b : Addr) : Heap := (zo2 h a b).push { cls := .type "tuple", data := .seq #[.ref h.objs.size, .ref (zo1 h a).objs.size] }
abbrev zo4 (h : Heap) (a b : Addr) : Heap := (zo3 h a b).push { cls := .type "tuple", data := .seq #[.none, .none] }
abbrev zo5 (h : Heap) (a b : Addr) : Heap := (zo4 h a b).push { cls := .type "zip", data := .fields #[.none, .bool false, .bool false, .ref (zo2 h a b).objs.size, .ref (zo3 h a b).objs.size] }
def iZip (K : PySem.W.Frag) (ta : TA) : TI := fun σ H R => ta σ H fun vs H1 => ∃ a b, vs = [.ref a, .ref b] ∧ (∃ xs, SqT K H1 a xs) ∧ (∃ ys, SqL K H1 b ys) ∧ R (Itz K a b) H1
end L2

namespace L2
open PySem PySem.Spec PyProof.Rows

/-! ### lists of pairs as tables -/
section
variable {κ : Type} [DecidableEq κ]
def valV (kvs : List (κ × V)) (k : κ) : Option V := (kvs.find? fun kv => decide (kv.1 = k)).map (·.2)
/-- in its place, or at the end -/
def putK (kvs : List (κ × V)) (k : κ) (v : V) : List (κ × V) :=
  if (kvs.any fun kv => decide (kv.1 = k)) = true then kvs.map (fun kv => if kv.1 = k then (kv.1, v) else kv) else kvs ++ [(k, v)]
def dropK (kvs : List (κ × V)) (k : κ) : List (κ × V) := kvs.filter fun kv => decide (kv.1 ≠ k)

end


/-! ### a tracked dict, its keys ints and texts or tuples of these -/
/-- raw entries of a dict with tuple keys -/
abbrev KT (H : Hp) : List (List Key × V) → List (List Key × Addr × Value) → Prop := Paired fun p q => p.1 = q.1 ∧ H q.2.1 = some (.tup (p.1.map kV)) ∧ RelV p.2 q.2.2
section
variable {P : Program} {w : World} {H : Hp} {h : Heap} {a : Addr}
end

/-- what the dict at a holds at the key y -/
def DGet (H : Hp) (a : Addr) (y : V) (r : Option V) : Prop :=
  (∃ kvs k, Rd H a (.dK kvs) ∧ y = kV k ∧ r = valV kvs k) ∨ ∃ kvs k b, Rd H a (.dT kvs) ∧ y = .ref b ∧ H b = some (.tup (k.map kV)) ∧ r = valV kvs k
/-- the heap behind a[y] = v -/
def DPut (H : Hp) (a : Addr) (y v : V) (H' : Hp) : Prop :=
  (∃ kvs k, H a = some (.dK kvs) ∧ y = kV k ∧ kvs.length < sizeLine ∧ H' = upd H a (.dK (putK kvs k v))) ∨
  ∃ kvs k b, H a = some (.dT kvs) ∧ y = .ref b ∧ H b = some (.tup (k.map kV)) ∧ kvs.length < sizeLine ∧ H' = upd H a (.dT (putK kvs k v))
section
variable {X : Cx} {pins : List (Addr × Obj)} {σ : St} {H : Hp} {s : Shared} {a : Addr} {y v : V} {u r : Value} {o : Option V} {A : Around} {E : Value → Shared → Prop}

end

section
variable {X : Cx} {pins : List (Addr × Obj)} {σ : St} {H : Hp} {s : Shared} {a : Addr} {kvs : List (Key × V)} {k : Key} {u : Value} {A : Around} {E : Value → Shared → Prop}
end


/-! ### readings and rules -/
/-- the element of a subscription, not a slice -/
def NoSl (i : Expr) : Prop := ∀ ov iv, subscripted i false ov iv = operate [ov, iv] (getItem ov iv)
/-- d[y] -/
def tDGet (td ty : TE) : TE := fun σ H Q => td σ H fun x H1 => ty σ H1 fun y H2 => ∃ a v, x = .ref a ∧ DGet H2 a y (some v) ∧ Q v H2
/-- y in d, y not in d -/
def tDIn (ty td : TE) : TE := fun σ H Q => ty σ H fun y H1 => td σ H1 fun x H2 => ∃ a o, x = .ref a ∧ DGet H2 a y o ∧ Q (.bl o.isSome) H2
def tDNotIn (ty td : TE) : TE := fun σ H Q => ty σ H fun y H1 => td σ H1 fun x H2 => ∃ a o, x = .ref a ∧ DGet H2 a y o ∧ Q (.bl (!o.isSome)) H2
/-- d[y] = v -/
def sDPut (td ty tv : TE) : TS := fun D σ H => tv σ H fun v H1 => td σ H1 fun x H2 => ty σ H2 fun y H3 => ∃ a H4, x = .ref a ∧ DPut H3 a y v H4 ∧ D.nx σ H4
/-- d[y] op= v -/
def sDAug (td ty tv : TE) (rd : V → V → Hp → VK → Prop) : TS := fun D σ H => td σ H fun x H1 => ty σ H1 fun y H2 => ∃ a v, x = .ref a ∧ DGet H2 a y (some v) ∧
  tv σ H2 fun y2 H3 => rd v y2 H3 fun z H4 => ∃ H5, DPut H4 a y z H5 ∧ D.nx σ H5
/-- del d[y] -/
def sDDel (td ty : TE) : TS := fun D σ H => td σ H fun x H1 => ty σ H1 fun y H2 => ∃ a kvs k, x = .ref a ∧ H2 a = some (.dK kvs) ∧ y = kV k ∧ (valV kvs k).isSome = true ∧ D.nx σ (upd H2 a (.dK (dropK kvs k)))

section
variable {X : Cx} {o i e value : Expr} {pos pos' tpos : Pos} {td ty tv : TE}
end


/-! ### displays -/
/-- {}, to be a dict of the kind that is wanted -/
def tDNewK : TE := fun _ H Q => ∀ p, H p = none → Q (.ref p) (upd H p (.dK []))
def tDNewT : TE := fun _ H Q => ∀ p, H p = none → Q (.ref p) (upd H p (.dT []))
section
variable {X : Cx} {pos : Pos}
end

/-- the pairs of a display, from the left -/
def tPairs : List (TE × TE) → St → Hp → (List (V × V) → Hp → Prop) → Prop
  | [], _, H, Q => Q [] H
  | (tk, tv) :: r, σ, H, Q => tk σ H fun x H1 => tv σ H1 fun y H2 => tPairs r σ H2 fun ps H3 => Q ((x, y) :: ps) H3
abbrev VV : List (V × V) → List (Value × Value) → Prop := Paired fun p q => RelV p.1 q.1 ∧ RelV p.2 q.2
def PPs (X : Cx) (pos : Pos) (keys : List (Option Expr)) (values : List Expr) (trs : List (TE × TE)) : Prop :=
  ∀ (pins : List (Addr × Obj)) (s : Shared) (σ : St) (H : Hp) (Q : List (V × V) → Hp → Prop), Inv X pins σ H s → tPairs trs σ H Q →
    wpAny (model X.prog X.w) X.A (evalPairs (pairTrees keys values X.env pos)) (fun vs s' => ∃ ps H', Inv X pins σ H' s' ∧ VV ps vs ∧ Q ps H') X.xe s
def mergeK (kvs more : List (Key × V)) : List (Key × V) := more.foldl (fun acc kv => putK acc kv.1 kv.2) kvs
/-- {k: v, ..} with keys ints and texts; the new dict stands empty while the pairs are made -/
def tDisp (trs : List (TE × TE)) : TE := fun σ H Q => ∀ p, H p = none → tPairs trs σ (upd H p (.dK [])) fun ps H2 => H2 p = some (.dK []) ∧ ∃ kvs : List (Key × V), ps = kvs.map (fun kv => (kV kv.1, kv.2)) ∧ kvs.length ≤ 15 ∧ Q (.ref p) (upd H2 p (.dK (mergeK [] kvs)))
/-! ### methods -/
/-- a method call o.m(e) of a built-in, with one argument: what must be seen of the text -/
structure M1 (X : Cx) (o : Expr) (m : Str) (apos : Pos) (e : Expr) (cpos : Pos) : Prop where
  base : attributeBase o m X.env (eval o X.env) = eval o X.env
  few : ((backTo cpos (starEach [e] X.env)).all (fun x => !x.1) && (backToKw cpos (keywordEach [] X.env)).all (fun x => x.1.isSome)
    && decide (([e] : List Expr).length + ([] : List Keyword).length + (if ([] : List Keyword).isEmpty then 0 else 1) < 30)) = true
  line : (apos.endLine == cpos.line) = true
  trees : backTo cpos (starEach [e] X.env) = [(false, eval e X.env)]
structure M2 (X : Cx) (o : Expr) (m : Str) (apos : Pos) (e f : Expr) (cpos : Pos) : Prop where
  base : attributeBase o m X.env (eval o X.env) = eval o X.env
  few : ((backTo cpos (starEach [e, f] X.env)).all (fun x => !x.1) && (backToKw cpos (keywordEach [] X.env)).all (fun x => x.1.isSome)
    && decide (([e, f] : List Expr).length + ([] : List Keyword).length + (if ([] : List Keyword).isEmpty then 0 else 1) < 30)) = true
  line : (apos.endLine == cpos.line) = true
  trees : backTo cpos (starEach [e, f] X.env) = [(false, eval e X.env), (false, eval f X.env)]

/-- a is a dict, whatever its keys -/
def IsD (H : Hp) (a : Addr) : Prop := (∃ kvs, Rd H a (.dK kvs)) ∨ ∃ kvs, Rd H a (.dT kvs)
section
variable {X : Cx} {pins : List (Addr × Obj)} {σ : St} {H : Hp} {s : Shared} {a : Addr} {y d : V} {u r : Value} {o : Option V} {A : Around} {E : Value → Shared → Prop}
end

def tDGet1 (td ty : TE) : TE := fun σ H Q => td σ H fun x H1 => ∃ a, x = .ref a ∧ IsD H1 a ∧ ty σ H1 fun y H2 => ∃ o, DGet H2 a y o ∧ Q (o.getD .non) H2
def tDGet2 (td ty tx : TE) : TE := fun σ H Q => td σ H fun x H1 => ∃ a, x = .ref a ∧ IsD H1 a ∧ ty σ H1 fun y H2 => tx σ H2 fun z H3 => ∃ o, DGet H3 a y o ∧ Q (o.getD z) H3
/-- d.pop(k): there; d.pop(k, x): there or not -/
def tDPop1 (td ty : TE) : TE := fun σ H Q => td σ H fun x H1 => ∃ a, x = .ref a ∧ IsD H1 a ∧ ty σ H1 fun y H2 => ∃ kvs k v, H2 a = some (.dK kvs) ∧ y = kV k ∧ valV kvs k = some v ∧ Q v (upd H2 a (.dK (dropK kvs k)))
def tDPop2 (td ty tx : TE) : TE := fun σ H Q => td σ H fun x H1 => ∃ a, x = .ref a ∧ IsD H1 a ∧ ty σ H1 fun y H2 => tx σ H2 fun z H3 => ∃ kvs k, H3 a = some (.dK kvs) ∧ y = kV k ∧
  (∀ v, valV kvs k = some v → Q v (upd H3 a (.dK (dropK kvs k)))) ∧ (valV kvs k = none → Q z H3)
section
variable {X : Cx} {o e f : Expr} {apos cpos : Pos} {td ty tx : TE}
end

/-! ### dict(d): a copy -/
section
variable {X : Cx} {pins : List (Addr × Obj)} {σ : St} {H : Hp} {s : Shared} {a : Addr} {kvs : List (Key × V)} {A : Around} {E : Value → Shared → Prop}
end


section
variable {X : Cx} {pins : List (Addr × Obj)} {σ : St} {H : Hp} {s : Shared} {a : Addr} {y : V} {u : Value} {A : Around} {E : Value → Shared → Prop}
end
end L2

namespace L2
open PySem PySem.Spec PyProof.Rows
/-! ### sorted -/
theorem strsAre_of {ss : List Str} : ∀ {us : List Value}, Vals (ss.map V.str) us → StrsAre us ss := by
  induction ss with
  | nil => intro us r; rw [List.map_nil] at r; cases r; exact .nil
  | cons n ns ih =>
    intro us r
    rw [List.map_cons] at r
    cases r with
    | cons r1 r2 =>
      obtain ⟨t, rfl⟩ := r1
      exact .cons _ _ (ih r2)
theorem vals_of_strs : ∀ {us : List Value} {ss : List Str}, StrsAre us ss → Vals (ss.map V.str) us
  | _, _, .nil => .nil
  | _, _, .cons _ _ h => .cons ⟨_, rfl⟩ (vals_of_strs h)
theorem lst_ok {P : Program} {w : World} {H : Hp} {h : Heap} {a : Addr} {xs : List V} {its : List Value} {e : Nat} (hv : Vals xs its) (hz : xs.length ≤ sizeLine) (ho : h.get? a = some (seqObj "list" its.toArray e)) : ObjOk P w H h a (.lst xs) := ⟨hz, its, e, hv, ho⟩
section
variable {X : Cx}
def rSortS (K : PySem.W.Frag) : List V → Hp → VK → Prop := fun xs H Q => ∃ a, ∃ ss : List Str, xs = [.ref a] ∧ SqL K H a (ss.map V.str) ∧ ss.length < 64 ∧ ∀ (p : Addr) (ss' : List Str), ss'.Perm ss → sortedS ss' = true → H p = none → Q (.ref p) (upd H p (.lst (ss'.map V.str)))
theorem call_sortS : CallR X (.builtin "sorted") (rSortS X.K) := by
  intro pins s σ H xs us Q I r h
  obtain ⟨a, ss, rfl, hq, h64, q⟩ := h
  obtain ⟨u, rfl, rx⟩ := vals1 r
  cases rx
  obtain ⟨its, r', pl, hz⟩ := I.list hq
  have hl := r'.length
  rw [List.length_map] at hl
  refine sorted_strs (pl.isList) (strsAre_of r') (by omega) fun out ss' a1 a2 a3 => ?_
  obtain ⟨e, he⟩ := sortedAll_at s.heap its out
  refine ⟨.ref (s.heap.objs.size + 1), _, I.laid (a := s.heap.objs.size + 1) (o := .lst (ss'.map V.str)) (t' := s.toks) (fun _ _ => sortedAll_old) (Nat.le_succ _) (lst_ok (its := out.toList) (e := e) (vals_of_strs a1) ?_ (by rw [Array.toArray_toList]; exact he)), rfl, q _ ss' a2 a3 (I.hok.fresh (Nat.le_succ _))⟩
  rw [List.length_map, a2.length_eq]
  exact sz1000 (by omega)
def rSortI (K : PySem.W.Frag) : List V → Hp → VK → Prop := fun xs H Q => ∃ a, ∃ ns : List Int, xs = [.ref a] ∧ SqL K H a (ns.map V.int) ∧ ns.length < 64 ∧ ∀ (p : Addr) (ns' : List Int), ns'.Perm ns → ns'.Pairwise (· ≤ ·) → H p = none → Q (.ref p) (upd H p (.lst (ns'.map V.int)))
def rSortDS : List V → Hp → VK → Prop := fun xs H Q => ∃ a kvs, ∃ ss : List Str, xs = [.ref a] ∧ H a = some (.dK kvs) ∧ kvs.map (·.1) = ss.map Sum.inr ∧ kvs.length < 64 ∧ ∀ (p : Addr) (ss' : List Str), ss'.Perm ss → sortedS ss' = true → H p = none → Q (.ref p) (upd H p (.lst (ss'.map V.str)))
def rSortDI : List V → Hp → VK → Prop := fun xs H Q => ∃ a kvs, ∃ ns : List Int, xs = [.ref a] ∧ H a = some (.dK kvs) ∧ kvs.map (·.1) = ns.map Sum.inl ∧ kvs.length < 64 ∧ ∀ (p : Addr) (ns' : List Int), ns'.Perm ns → ns'.Pairwise (· ≤ ·) → H p = none → Q (.ref p) (upd H p (.lst (ns'.map V.int)))
end
end L2

namespace L2
open PySem PySem.Spec PyProof.Rows
variable {X : Cx}
/-! ### xs[::-1] of a list -/
def tRev (K : PySem.W.Frag) (te : TE) (tk : TO) : TE := fun σ H Q => te σ H fun x H1 => tk σ H1 fun st H2 => st = some (-1) ∧ ∃ a xs, x = .ref a ∧ SqL K H2 a xs ∧ ∀ p, H2 p = none → Q (.ref p) (upd H2 p (.lst xs.reverse))
/-! ### list(range(a, b)) -/
def tListRng (ta : TA) : TE := fun σ H Q => ta σ H fun vs H1 => ∃ i j : Int, vs = [.int i, .int j] ∧ (-(2 ^ 62) ≤ i ∧ i < 2 ^ 62 ∧ -(2 ^ 62) ≤ j ∧ j < 2 ^ 62) ∧ (j - i).toNat ≤ 1000 ∧ ∀ p, H1 p = none → Q (.ref p) (upd H1 p (.lst (rngV i (j - i).toNat)))
/-! ### list(d.values()) -/
def tListVals (td : TE) : TE := fun σ H Q => td σ H fun x H1 => ∃ a kvs, x = .ref a ∧ H1 a = some (.dK kvs) ∧ ∀ p, H1 p = none → Q (.ref p) (upd H1 p (.lst (kvs.map (·.2))))
end L2

namespace L2
open PySem PySem.Spec PyProof.Rows
/-- the i-th items of a tuple and of a list, in a new tuple -/
def Itz2 (K : PySem.W.Frag) (a b : Addr) : It :=
  ⟨fun i H => ∃ xs ys, SqT K H a xs ∧ SqT K H b ys ∧ i < xs.length ∧ i < ys.length,
   fun i H v H' => ∃ T, H T = none ∧ v = .ref T ∧ ∀ xs ys, SqT K H a xs → SqT K H b ys → ∃ x y, xs[i]? = some x ∧ ys[i]? = some y ∧ H' = upd H T (.tup [x, y]),
   fun i H => ∃ xs ys, SqT K H a xs ∧ SqT K H b ys ∧ (i = xs.length ∨ (i < xs.length ∧ i = ys.length))⟩
/-- a zip's objects, laid one behind another from n on -/
def ZipSt2 (n a b : Nat) (i : Nat) (h : Heap) : Prop := IsZip h (n + 4) (n + 2) (n + 3) .none ∧ IsPair h (n + 2) (.ref n) (.ref (n + 1)) ∧ (∃ x y, IsPair h (n + 3) x y) ∧ h.IsTupleIter n a i ∧ h.IsTupleIter (n + 1) b i
abbrev yo1 (h : Heap) (a : Addr) : Heap := h.push { cls := .type "tuple_iterator", data := .fields #[.ref a, .int 0 0] }
abbrev yo2 (h : Heap) (a b : Addr) : Heap := (yo1 h a).push { cls := .type "tuple_iterator", data := .fields #[.ref b, .int 0 0] }
abbrev yo3 (h : Heap) (a b : Addr) : Heap := (yo2 h a b).push { cls := .type "tuple", data := .seq #[.ref h.objs.size, .ref (yo1 h a).objs.size] }
abbrev yo4 (h : Heap) (a b : Addr) : Heap := (yo3 h a b).push { cls := .type "tuple", data := .seq #[.none, .none] }
abbrev yo5 (h : Heap) (a b : Addr) : Heap := (yo4 h a b).push { cls := .type "zip", data := .fields #[.none, .bool false, .bool false, .ref (yo2 h a b).objs.size, .ref (yo3 h a b).objs.size] }
def iZip2 (K : PySem.W.Frag) (ta : TA) : TI := fun σ H R => ta σ H fun vs H1 => ∃ a b, vs = [.ref a, .ref b] ∧ (∃ xs, SqT K H1 a xs) ∧ (∃ ys, SqT K H1 b ys) ∧ R (Itz2 K a b) H1
end L2

namespace L2
open PySem PySem.Spec PyProof.Rows
variable {X : Cx}
/-! ### list(d): the keys of a dict, texts -/
def rListD : List V → Hp → VK → Prop := fun xs H Q => ∃ a kvs, ∃ ss : List Str, xs = [.ref a] ∧ H a = some (.dK kvs) ∧ kvs.map (·.1) = ss.map Sum.inr ∧ ∀ p, H p = none → Q (.ref p) (upd H p (.lst (ss.map V.str)))
/-! ### list(range(a, b, c)) -/
def tListRng3 (ta : TA) : TE := fun σ H Q => ta σ H fun vs H1 => ∃ i j c : Int, vs = [.int i, .int j, .int c] ∧ (-(2 ^ 20) ≤ i ∧ i < 2 ^ 20 ∧ -(2 ^ 20) ≤ j ∧ j < 2 ^ 20 ∧ 1 ≤ c ∧ c < 2 ^ 20) ∧ (j - i) / c ≤ 900 ∧
  ∀ p (ms : List Int), (∀ x ∈ ms, i ≤ x ∧ x < j) → (ms.length : Int) ≤ max 0 ((j - i - 1) / c + 1) → H1 p = none → Q (.ref p) (upd H1 p (.lst (ms.map V.int)))
end L2

namespace L2
open PySem PySem.Spec PyProof.Rows
variable {X : Cx}
/-! ### a dict walked: it is held still from then on -/
/-- the keys of a dict that is held still -/
def Itd (d : Addr) (ob : Obj) (kvs : List (Key × V)) : It :=
  ⟨fun i H => H d = some (.frz ob (.dK kvs)) ∧ i < kvs.length, fun i H v H' => H' = H ∧ ∃ kv, kvs[i]? = some kv ∧ v = kV kv.1, fun i H => H d = some (.frz ob (.dK kvs)) ∧ kvs.length ≤ i⟩
def iDict (tl : TE) : TI := fun σ H R => tl σ H fun x H1 => ∃ d kvs, x = .ref d ∧ H1 d = some (.dK kvs) ∧ ∀ ob, R (Itd d ob kvs) (upd H1 d (.frz ob (.dK kvs)))
end L2

namespace L2
open PySem PySem.Spec PyProof.Rows PySem.W
/-! ### try, with the names kept -/
/-- an exception of a callee that is called while the names are σ -/
def PassesAt (CX : CXT) (X : Cx) (σ : St) (E : XK) : Prop := ∀ (pins : List (Addr × Obj)) (H : Hp) (s : Shared) (e : Value) (s' : Shared), Inv X pins σ H s → CX X.stack H s E e s' → X.xe e s'
section
variable {X : Cx}
/-- as tTry, of a body that changes no name: the others stay -/
def tTryS (K : Frag) (i j : Nat) (Dc : Addr) (tb : St → XK → TS) : TS := fun D σ H => tb σ (fun cls dd H' => ∃ C, cls = .ref C ∧ ExK K C ∧ subIn K (.ref C) (.ref Dc) = some true ∧ ∀ a, H' a = none → D.nx (((σ.set i (some (.ref a))).set j (some (.ref a))).set i none) (upd H' a (excD a C dd))) D σ H
end
end L2
namespace L2
open PySem PySem.Spec PyProof.Rows
variable {X : Cx}
/-! ### a dict that is held still, read -/
def rSortDSR : List V → Hp → VK → Prop := fun xs H Q => ∃ a kvs, ∃ ss : List Str, xs = [.ref a] ∧ Rd H a (.dK kvs) ∧ kvs.map (·.1) = ss.map Sum.inr ∧ kvs.length < 64 ∧ ∀ (p : Addr) (ss' : List Str), ss'.Perm ss → sortedS ss' = true → H p = none → Q (.ref p) (upd H p (.lst (ss'.map V.str)))
def tListValsR (td : TE) : TE := fun σ H Q => td σ H fun x H1 => ∃ a kvs, x = .ref a ∧ Rd H1 a (.dK kvs) ∧ ∀ p, H1 p = none → Q (.ref p) (upd H1 p (.lst (kvs.map (·.2))))
end L2

namespace L2
open PySem PySem.Spec PyProof.Rows
/-! ### heaps that grow, in which dicts may come to be held still -/
def Fz (H H' : Hp) : Prop := ∀ b o, H b = some o → H' b = some o ∨ ∃ ob kvs, o = .dK kvs ∧ H' b = some (.frz ob (.dK kvs))
/-- d is held still, all else is as it was -/
def Hld (d : Addr) (ob : Obj) (kvs : List (Key × V)) (H H' : Hp) : Prop := H' d = some (.frz ob (.dK kvs)) ∧ (∀ b, b ≠ d → H' b = H b) ∧ (H d = some (.dK kvs) ∨ H d = some (.frz ob (.dK kvs)))
section
variable {X : Cx}
/-- a dict walked that may be held still already -/
def iDictR (tl : TE) : TI := fun σ H R => tl σ H fun x H1 => ∃ d kvs, x = .ref d ∧ Rd H1 d (.dK kvs) ∧ ∀ ob H2, Hld d ob kvs H1 H2 → R (Itd d ob kvs) H2
/-! ### dict(d), isinstance(d, dict) -/
def rDictD : List V → Hp → VK → Prop := fun xs H Q => ∃ a kvs, xs = [.ref a] ∧ Rd H a (.dK kvs) ∧ ∀ p, H p = none → Q (.ref p) (upd H p (.dK kvs))
/-! ### == and != of dicts that tell the same -/
/-- each value of the one is told by the other -/
def DDeq (K : PySem.W.Frag) (H : Hp) (ka kb : List (Key × V)) : Prop := ka.length = kb.length ∧ ∀ kv ∈ ka, ∃ v' d, valV kb kv.1 = some v' ∧ Dv K H 30 kv.2 d ∧ Dv K H 30 v' d
def rNeDD (K : PySem.W.Frag) : R2 := fun x y H Q => ∃ a b ka kb, x = .ref a ∧ y = .ref b ∧ Rd H a (.dK ka) ∧ Rd H b (.dK kb) ∧ DDeq K H ka kb ∧ Q (.bl false) H
def rEqDD (K : PySem.W.Frag) : R2 := fun x y H Q => ∃ a b ka kb, x = .ref a ∧ y = .ref b ∧ Rd H a (.dK ka) ∧ Rd H b (.dK kb) ∧ DDeq K H ka kb ∧ Q (.bl true) H
end
end L2

namespace L2
open PySem PySem.Spec PyProof.Rows
/-! ### != of two lists of dicts that tell the same, at one program -/
/-- the two are equal, at this program -/
def EqIn (P : Program) (w : World) (A : Around) (s : Shared) (y x : Value) : Prop := ∀ (E : Value → Shared → Prop) (Q : Bool → Shared → Prop), Q true s → wpAny (model P w) A (eqBool y x) Q E s
section
open AutoSeq1 MeetsSeq MeetsSeq2 MeetsSeq3 SeqAt
variable {P : Program} {w : World}
end
section
variable {X : Cx}
def rNeLD (K : PySem.W.Frag) : R2 := fun x y H Q => ∃ a b xs ys, x = .ref a ∧ y = .ref b ∧ SqL K H a xs ∧ SqL K H b ys ∧ xs.length = ys.length ∧
  (∀ (j : Nat) x y, xs[j]? = some x → ys[j]? = some y → ∃ da db ka kb, x = .ref da ∧ y = .ref db ∧ Rd H da (.dK ka) ∧ Rd H db (.dK kb) ∧ DDeq K H ka kb) ∧ Q (.bl false) H
end
end L2

namespace HT
open PySem PyProof.Rows
/-- t < u of tuples of texts -/
def lexLtS : List Str → List Str → Bool
  | [], [] => false
  | [], _ :: _ => true
  | _ :: _, [] => false
  | x :: xs, y :: ys => if x = y then lexLtS xs ys else decide (x.cps.toList < y.cps.toList)
theorem lexLtS_cons (x y : Str) (xs ys : List Str) : lexLtS (x :: xs) (y :: ys) = if x = y then lexLtS xs ys else decide (x.cps.toList < y.cps.toList) := rfl
theorem lexLtS_nil_nil : lexLtS [] [] = false := rfl
theorem lexLtS_nil_cons (y : Str) (ys : List Str) : lexLtS [] (y :: ys) = true := rfl
theorem lexLtS_cons_nil (x : Str) (xs : List Str) : lexLtS (x :: xs) [] = false := rfl

theorem eqAt_str (A : Around) (s : Shared) (a : Str) (t : Tok) (c : Str) (u : Tok) : ∃ e, SeqAt.EqAt A s (.str a t) (.str c u) e ∧ (e = true ↔ a = c) :=
  ⟨(a == c), SeqAt.EqAt.str_str a t c u, by simp⟩
theorem rcLt_str (A : Around) (s : Shared) (a : Str) (t : Tok) (c : Str) (u : Tok) (prog : Program) (w : World) (E : Value → Shared → Prop) (Q : Value → Shared → Prop) (h : Q (.bool (decide (a.cps.toList < c.cps.toList))) s) :
    wpAny (model prog w) A (richCompare .Lt (.str a t) (.str c u)) Q E s :=
  (PyProof.Rows.lt_str h : wpAny (model prog w) A (compareOp .Lt (.str a t) (.str c u)) Q E s)

section
open PySem.SeqAt
open PySem.AutoSeq1 (wpAny_loadPart')
open PySem.MeetsSeq PySem.MeetsSeq2 PySem.MeetsSeq3

theorem tuple_lt_strs (l b : Addr) (items items2 : Array Value) (n n2 : Nat) (dd dd2 : Option Addr) (sl sl2 : Array (Option Value)) (ns ms : List Str) (hi : StrsAre items.toList ns) (hj : StrsAre items2.toList ms) :
    Meets (Builtin.«tuple.__lt__» ⟨[.ref l, .ref b], []⟩)
      (fun _ R s => s.heap.get? l = some { cls := .type "tuple", dict := dd, data := .seq items n, slots := sl } ∧ s.heap.get? b = some { cls := .type "tuple", dict := dd2, data := .seq items2 n2, slots := sl2 } ∧
        R (.ok (.ret (.bool (lexLtS ns ms)))) s) :=
  .of_wp fun prog w A R s h => by
    obtain ⟨hp, g, d, tk, os⟩ := s; obtain ⟨hl, hb, h⟩ := h
    have f2 := AutoSeq1.sub_tuple_tuple
    have z1 : items.size = ns.length := by rw [← hi.length]; simp
    have z2 : items2.size = ms.length := by rw [← hj.length]; simp
    wp_walk using wpAny_loadPart' hl, wpAny_loadPart' hb, wpAny_forIn_list _ (fun rest b s' => b.1 = none ∧ s' = ⟨hp, g, d, tk, os⟩ ∧ ∃ (vs ws : List Value) (ns' ms' : List Str), rest = vs.zip ws ∧
      StrsAre vs ns' ∧ StrsAre ws ms' ∧ ns'.length + items2.size = ms'.length + items.size ∧ R (.ok (.ret (.bool (lexLtS ns' ms')))) ⟨hp, g, d, tk, os⟩) _
    case turn =>
      rintro ⟨y, x⟩ rest b s' ⟨hb', rfl, vs, ws, ns', ms', hz, hvi, hwi, hlen, hR⟩
      cases hvi with
      | nil => rw [List.zip_nil_left] at hz; cases hz
      | cons a t hvi' =>
        cases hwi with
        | nil => rw [List.zip_nil_right] at hz; cases hz
        | cons c u hwi' =>
          rw [List.zip_cons_cons] at hz
          injection hz with hyx hrest
          injection hyx with hy hx
          subst hy hx
          rw [lexLtS_cons] at hR
          simp only [List.length_cons] at hlen
          obtain ⟨e, he, hiff⟩ := eqAt_str A.in1 ⟨hp, g, d, tk, os⟩ a t c u
          refine wpAny_bind (he prog w _ _ ?_)
          cases e with
          | true =>
            rw [if_pos (hiff.mp rfl)] at hR
            wp_walk
            exact ⟨rfl, rfl, _, _, _, _, hrest, hvi', hwi', by omega, hR⟩
          | false =>
            rw [if_neg (fun q => absurd (hiff.mpr q) Bool.false_ne_true)] at hR
            have hri := rcLt_str A.in1 ⟨hp, g, d, tk, os⟩ a t c u prog w
            wp_walk using hri
            exact ⟨_, rfl, by simpa using hR⟩
    case fin =>
      rintro ⟨b1, b2⟩ s' ⟨hb', rfl, vs, ws, ns', ms', hz, hvi, hwi, hlen, hR⟩
      simp only at hb'
      subst hb'
      have hv : lexLtS ns' ms' = decide (items.size < items2.size) := by
        cases hvi with
        | nil =>
          cases hwi with
          | nil =>
            simp only [List.length_nil] at hlen
            rw [lexLtS_nil_nil]
            exact (decide_eq_false (by omega)).symm
          | cons c u hw =>
            simp only [List.length_nil, List.length_cons] at hlen
            rw [lexLtS_nil_cons]
            exact (decide_eq_true (by omega)).symm
        | cons a t hv =>
          cases hwi with
          | nil =>
            simp only [List.length_nil, List.length_cons] at hlen
            rw [lexLtS_cons_nil]
            exact (decide_eq_false (by omega)).symm
          | cons c u hw =>
            rw [List.zip_cons_cons] at hz
            cases hz
      rw [hv] at hR
      wp_walk
      exact ⟨_, rfl, by simpa [Builtin.Tuple.tupleCompareSizes] using hR⟩
    case h =>
      exact ⟨rfl, rfl, items.toList, items2.toList, ns, ms, rfl, hi, hj, by omega, h⟩
end

section
variable {prog : Program} {w : World} {A : Around} {E : Value → Shared → Prop} {s : Shared}

theorem lt_tupStrs {l b : Addr} {items items2 : Array Value} {ns ms : List Str} {Q : Value → Shared → Prop} (hl : IsTup s.heap l items) (hb : IsTup s.heap b items2) (hi : StrsAre items.toList ns) (hj : StrsAre items2.toList ms)
    (hu : A.units < cLine) (h : Q (.bool (lexLtS ns ms)) s) : wpAny (model prog w) A (compareOp .Lt (.ref l) (.ref b)) Q E s := by
  obtain ⟨⟨cls, dd, data, sl⟩, ho, hc, n, hd⟩ := id hl
  obtain ⟨⟨cls2, dd2, data2, sl2⟩, ho2, hc2, n2, hd2⟩ := id hb
  simp only at hc hd hc2 hd2
  subst hc hd hc2 hd2
  exact richCompare_meets_room (op := .Lt) ⟨_, ho, rfl⟩ ⟨_, ho2, rfl⟩ PySem.F.slot_tuple_lt PySem.F.entry_tuple_lt (PySem.F.args_tuple_lt_2 _ _) (tuple_lt_strs l b items items2 n n2 dd dd2 sl sl2 ns ms hi hj)
    ⟨ho, ho2, show Value.bool (lexLtS ns ms) ≠ Value.notImplemented ∧ Q (.bool (lexLtS ns ms)) s from ⟨(fun x => nomatch x), h⟩⟩ hu

end
end HT
namespace L2
open PySem PySem.Spec PyProof.Rows
section
variable {X : Cx}
def rLtTS (K : PySem.W.Frag) : R2 := fun x y H Q => ∃ a b ns ms, x = .ref a ∧ y = .ref b ∧ SqT K H a (ns.map V.str) ∧ SqT K H b (ms.map V.str) ∧ Q (.bl (HT.lexLtS ns ms)) H
theorem op_ltTS (hu : X.A.units < cLine) : OpR X (compareOp .Lt) (rLtTS X.K) := by
  intro pins s σ H x y v u Q I rx ry h
  obtain ⟨a, b, ns, ms, rfl, rfl, ha, hb, q⟩ := h
  cases rx
  cases ry
  obtain ⟨its, r1, p1, _⟩ := I.tuple ha
  obtain ⟨its2, r2, p2, _⟩ := I.tuple hb
  have i1 : StrsAre its.toArray.toList ns := strsAre_of r1
  have i2 : StrsAre its2.toArray.toList ms := strsAre_of r2
  exact HT.lt_tupStrs p1 p2 i1 i2 hu ⟨.bl (HT.lexLtS ns ms), H, I, rfl, q⟩
end
end L2

namespace L2
open PySem PySem.Spec PyProof.Rows
/-! ### the statements of a def under names: what follows stays small -/
section
variable {D : Ends} {σ : L2.St} {H : Hp}
end
end L2

namespace L2
open PySem PySem.Spec PyProof.Rows PySem.W
section
variable {X : Cx}
end
end L2
namespace TM
open PySem PySem.Spec PyProof.Rows PySem.W
/-- j unlike things of a list: it is that long -/
theorem pigeon {α : Type} [BEq α] [LawfulBEq α] (f : Nat → α) : ∀ (j : Nat) (l : List α), (∀ i, i < j → f i ∈ l) → (∀ i k, i < j → k < j → f i = f k → i = k) → j ≤ l.length := by
  intro j
  induction j with
  | zero =>
    intro l _ _
    exact Nat.zero_le _
  | succ j ih =>
    intro l hm hi
    have h1 := hm j (Nat.lt_succ_self _)
    have := ih (l.erase (f j)) (fun i hij => (List.mem_erase_of_ne (fun e => by
      have := hi i j (by omega) (by omega) e
      omega)).mpr (hm i (by omega))) (fun i k a b e => hi i k (by omega) (by omega) e)
    rw [List.length_erase_of_mem h1] at this
    have : 0 < l.length := List.length_pos_of_mem h1
    omega
/-- the letter j places on, round the 26 -/
def rd (c j : Nat) : Nat := 97 + (c - 97 + j) % 26
abbrev LET : Str := "abcdefghijklmnopqrstuvwxyz"
theorem at_let {j : Nat} (h : j < 26) : (cps LET)[j]? = some (97 + j) := by
  have all : ∀ k : Fin 26, (cps LET)[k.val]? = some (97 + k.val) := by decide +kernel
  exact all ⟨j, h⟩
end TM

namespace GM
/-- t over b, in lowest terms, is N over M -/
structure Fr (M t b N : Int) : Prop where
  am : Amt t b
  e : t * M = N * b
end GM

namespace K31
open PySem PySem.Spec PyProof.Rows L2 GM TM
def top (i : Nat) : Stmt := PySem.Challenge.pw_phialhouse_k31_what_is_a_bench.main.body.getD i (.Pass ⟨0, 0, 0, 0⟩)
abbrev sIsWh : Stmt := top 2
abbrev sGcd : Stmt := top 3
abbrev sIsAm : Stmt := top 4
abbrev sIsWare : Stmt := top 8
abbrev sIsBench : Stmt := top 12
abbrev sRooms : Stmt := top 13
abbrev sPairs : Stmt := top 14
abbrev sRising : Stmt := top 15
abbrev sIsPair : Stmt := top 16
abbrev sClean : Stmt := top 17
abbrev sCell : Stmt := top 19
abbrev sMixed : Stmt := top 20
abbrev sLowest : Stmt := top 21
abbrev sDigit : Stmt := top 26
abbrev sNames : Stmt := top 27
abbrev sWares : Stmt := top 28
abbrev sMuch : Stmt := top 29
abbrev sApart : Stmt := top 30
abbrev sFree : Stmt := top 31
abbrev sBench : Stmt := top 32
abbrev sRsp : Stmt := top 33
abbrev sAsp : Stmt := top 34
abbrev sSpoiled : Stmt := top 35
abbrev sLaw : Stmt := top 36
structure Txt (mg : Str → Option Value) : Prop where
  isi : mg "isinstance" = none
  int' : mg "int" = none
  bool' : mg "bool" = none
  tup' : mg "tuple" = none
  str' : mg "str" = none
  len : mg "len" = none
  range : mg "range" = none
  min' : mg "min" = none
  max' : mg "max" = none
  abs' : mg "abs" = none
  list' : mg "list" = none
  all' : mg "all" = none
  sorted' : mg "sorted" = none
def spGcd : Sp := fun vs H Q _ => ∃ a b : Int, vs = [.int a, .int b] ∧ 0 ≤ a ∧ 0 ≤ b ∧ Q (.int (G a b)) H
def spCell (K : PySem.W.Frag) : Sp := fun vs H Q _ => ∃ (a : Addr) (ns : List Int) (k : Int), vs = [.ref a, .int k] ∧ SqL K H a (ns.map V.int) ∧ 0 ≤ k ∧ ∀ c : Int, Q (.int c) H
structure Wr (x : Str) : Prop where
  l1 : 1 ≤ x.length
  l8 : x.length ≤ 8
  lt : ∀ c ∈ cps x, 97 ≤ c ∧ c ≤ 122
instance (x : Str) : Decidable (Wr x) := decidable_of_iff ((1 ≤ x.length ∧ x.length ≤ 8) ∧ ∀ c ∈ cps x, 97 ≤ c ∧ c ≤ 122) ⟨fun h => ⟨h.1.1, h.1.2, h.2⟩, fun h => ⟨⟨h.l1, h.l8⟩, h.lt⟩⟩
def spIsWare (K : PySem.W.Frag) : Sp := fun vs H Q _ => ∃ v, vs = [v] ∧ ((IsiD K H v "str" false ∧ Q (.bl false) H) ∨ ∃ x : Str, v = .str x ∧ x.length ≤ 1000 ∧ (Wr x → ∀ H', Same H H' → Q (.bl true) H') ∧ (¬ Wr x → ∀ H', Same H H' → Q (.bl false) H'))
section
variable {P : Program} {w : World} {K : PySem.W.Frag} {mg : Str → Option Value} {base : Heap}
theorem gcd_turn {a0 b0 a b : Int} (e : G a b = G a0 b0) (hb : 0 ≤ b) (h : ¬ b = 0) : 0 ≤ a % b ∧ G b (a % b) = G a0 b0 := ⟨Int.emod_nonneg a h, by rw [G_step]; exact e⟩
theorem scGcd : FnScope ["one", "other", "rest"] ["one", "other"] (defScope sGcd) := ⟨rfl, rfl, rfl, by decide +kernel, rfl, by decide +kernel, by decide +kernel⟩
theorem ok_gcd {f : Addr} {fd : FuncData} (F : Fun K "common_divisor" "common_divisor" sGcd f fd) : FnOk P w K mg base CX0 1 f fd ["one", "other"] spGcd := by
  refine F.ok scGcd (fun vs H Q E h => ?_) (fun cdv A outer s H vs Q E hr h => ?_)
  · obtain ⟨a, b, rfl, _⟩ := h
    rfl
  · obtain ⟨a, b, rfl, ha, hb, k⟩ := h
    refine ⟨_, pss_cons (ps_while PassesOwn.never (pt_cmpR op_ne (pv 1) pe_int (nomark _))
      (pss_cons (ps_set (i := 2) scGcd.nd rfl (Or.inl rfl) (pe_op op_mod (pv 0) (pv 1)))
      (pss_cons (ps_set (i := 0) scGcd.nd rfl (Or.inl rfl) (pv 1))
      (pss_one (ps_set (i := 1) scGcd.nd rfl (Or.inl rfl) (pv 2))))))
      (pss_one (ps_ret (pv 0))), ?_⟩
    refine while_by (fun σ H' => H' = H ∧ ∃ (x y : Int) (r : Option V), σ = [some (.int x), some (.int y), r] ∧ 0 ≤ x ∧ 0 ≤ y ∧ G x y = G a b) (fun σ _ => match σ with | [_, some (.int y), _] => y.toNat | _ => 0) ⟨rfl, a, b, none, rfl, ha, hb, rfl⟩ ?_ ?_
    · rintro σ H' ⟨rfl, x, y, r, rfl, hx, hy, e⟩
      refine ⟨_, rfl, rfl, _, rfl, ?_⟩
      refine ite2 (fun hc => ?_) (fun hc => ?_)
      · have hy0 : ¬ y = 0 := by
          intro z
          subst z
          simp at hc
        have t := gcd_turn e hy hy0
        refine ⟨_, rfl, _, rfl, _, _, rfl, rfl, (by show 0 < y; omega), _, rfl, _, rfl, ⟨rfl, y, x % y, _, rfl, hy, t.1, t.2⟩, ?_⟩
        have := Int.emod_lt_of_pos x (show 0 < y by omega)
        have := t.1
        show (x % y).toNat < y.toNat
        omega
      · have hy0 : y = 0 := by
          by_cases z : y = 0
          · exact z
          · exfalso
            apply hc
            simp [z]
        subst hy0
        rw [G_zero hx] at e
        exact ⟨_, rfl, by rw [e]; exact k⟩
    · rintro σ H' Q1 Q2 hq ⟨v, e, z, q⟩
      exact ⟨v, e, z, by obtain ⟨k, e, q⟩ := q; exact ⟨k, e, hq _ _ q⟩⟩
theorem b6 {n : Nat} {x : Int} (h : Bt n x) (hn : n ≤ 1000000 := by decide) : Bt 1000000 x := h.mono hn
theorem bt_lt (n : Nat) {x c : Int} (h0 : 0 ≤ x) (h : x < c) (hc : c ≤ ((2 ^ n : Nat) : Int) := by decide +kernel) : Bt n x := by
  show x.natAbs < 2 ^ n
  omega
theorem emod_in (x : Int) {m : Int} (h : 0 < m) : 0 ≤ x % m ∧ x % m < m := ⟨Int.emod_nonneg x (by omega), Int.emod_lt_of_pos x h⟩
theorem bt_int : bootBuiltins "int" = some (.type "int") := by decide +kernel
theorem bt_bool : bootBuiltins "bool" = some (.type "bool") := by decide +kernel
theorem bt_tuple : bootBuiltins "tuple" = some (.type "tuple") := by decide +kernel
theorem bt_str : bootBuiltins "str" = some (.type "str") := by decide +kernel
theorem bl {c : Int} (h0 : 0 ≤ c := by decide) (h : c < 18446744073709551616 := by decide) : Bt 1000000 c := b6 (bt_lt 64 h0 h)
theorem bk {c : Int} (h0 : 0 ≤ c := by decide) (h : c < 18446744073709551616 := by decide) : Bt 1000 c := (bt_lt 64 h0 h).mono (by decide)
theorem scCell : FnScope ["_law_script", "_law_k"] ["_law_script", "_law_k"] (defScope sCell) := ⟨rfl, rfl, rfl, by decide +kernel, rfl, by decide +kernel, by decide +kernel⟩
theorem ok_cell {f : Addr} {fd : FuncData} (F : Fun K "_law_cell_at" "_law_cell_at" sCell f fd) (T : Txt mg) : FnOk P w K mg base CX0 1 f fd ["_law_script", "_law_k"] (spCell K) := by
  refine F.ok scCell (fun vs H Q E h => ?_) (fun cdv A outer s H vs Q E hr h => ?_)
  · obtain ⟨_, _, _, rfl, _⟩ := h
    rfl
  · obtain ⟨a, ns, j, rfl, hS, h0, k⟩ := h
    refine ⟨_, (pss_cons (ps_if (pt_cmpR op_lt (pv 1) (pe_callB call_len_seq rfl T.len PySem.boot_len (pa_cons (pv 0) pa_nil)) (nomark _))
        (pss_one (ps_ret (pe_ix ix_list (pv 0) (pv 1) (fun _ _ => rfl))))
        pss_nil)
      (pss_one (ps_ret pe_int))), ?_⟩
    refine ⟨_, rfl, _, rfl, a, _, rfl, .inl hS, _, _, rfl, rfl, _, rfl, ite2 (fun hc => ?_) (fun _ => k _)⟩
    have hc' : j < ((ns.map V.int).length : Int) := of_decide_eq_true hc
    rw [List.length_map] at hc'
    obtain ⟨i, rfl⟩ := Int.eq_ofNat_of_zero_le h0
    obtain ⟨c, hc⟩ : ∃ c, ns[i]? = some c := ⟨_, List.getElem?_eq_getElem (show i < ns.length by omega)⟩
    exact ⟨_, rfl, _, rfl, a, _, (i : Int), .int c, rfl, rfl, hS, atI_nat (by rw [List.getElem?_map, hc]; rfl), k c⟩
theorem bt_abs : bootBuiltins "abs" = some (.builtin "abs") := by decide +kernel
theorem lenC (x : Str) : x.length = (cps x).length := by simp [Str.length, cps]
theorem lenA (x y : Str) : (x ++ y).length = x.length + y.length := by rw [lenC, cps_append', List.length_append, ← lenC, ← lenC]
theorem in_strs {x : Str} {ws : List Str} : inV (.str x) (ws.map V.str) = true ↔ x ∈ ws := by
  unfold inV
  rw [List.any_map, List.any_eq_true]
  constructor
  · rintro ⟨y, hy, e⟩
    have : y = x := by simpa [eqV] using e
    exact this ▸ hy
  · intro h
    exact ⟨x, h, by simp [eqV]⟩
theorem flat_strs (ws : List Str) : (ws.map V.str).all flatV = true := by
  rw [List.all_map, List.all_eq_true]
  intro x _
  rfl
theorem nodup_snoc {ws : List Str} {x : Str} (h : ws.Nodup) (n : x ∉ ws) : (ws ++ [x]).Nodup := by
  rw [List.nodup_append]
  refine ⟨h, by simp, fun y hy z hz e => ?_⟩
  rw [List.mem_singleton.mp hz] at e
  exact n (e ▸ hy)
theorem clOk_plain {X : Cx} {scope : Scope} (h : ∀ y ∈ scope.names, y.2 = .local ∨ y.2 = .globalImplicit) : ClOk X scope [] := by
  refine ⟨closureFor_none fun x hx z => ?_, fun x c e => by simp at e, fun x e => ?_⟩
  · rcases h x hx with q | q <;> rw [q] at z <;> cases z
  · exfalso
    have e' : ∃ k, (k = NameKind.cell ∨ k = NameKind.free) ∧ (relabel scope X.env).names.lookup x = some k := by
      rcases e with e | e
      · exact ⟨_, .inl rfl, e⟩
      · exact ⟨_, .inr rfl, e⟩
    obtain ⟨k, hk, e⟩ := e'
    have hm := PySem.mem_of_lookup e
    obtain ⟨y, hy, hy2⟩ := List.mem_map.mp hm
    have hl := h y hy
    obtain ⟨n, kk⟩ := y
    simp only at hl
    rcases hl with hl | hl <;> subst hl <;> simp at hy2 <;> rcases hk with rfl | rfl <;> exact absurd hy2.2 (by decide)
theorem list_eq {α : Type} {ys l : List α} (hl : ys.length = l.length) (h : ∀ (i : Nat) x y, l[i]? = some x → ys[i]? = some y → y = x) : ys = l := by
  refine List.ext_getElem? fun i => ?_
  by_cases hi : i < l.length
  · have e1 := List.getElem?_eq_getElem hi
    have e2 : ys[i]? = some (ys[i]'(by omega)) := List.getElem?_eq_getElem (by omega)
    rw [e1, e2, h i _ _ e1 e2]
  · rw [List.getElem?_eq_none (by omega), List.getElem?_eq_none (by omega)]
theorem nd1 : (["sign"] : List Str).Nodup := by decide +kernel
theorem let_mem (c : Nat) : (!(Builtin.Str.occurrences LET ⟨#[c]⟩ 0 LET.length 1).isEmpty) = decide (97 ≤ c ∧ c ≤ 122) := by
  rw [StrLaws.found_one]
  have e : LET.cps.toList = (List.range 26).map (97 + ·) := by decide +kernel
  rw [e]
  refine decide_eq_decide.mpr ⟨fun h => ?_, fun h => ?_⟩
  · obtain ⟨j, hj, rfl⟩ := List.mem_map.mp h
    have := List.mem_range.mp hj
    omega
  · exact List.mem_map.mpr ⟨c - 97, List.mem_range.mpr (by omega), by omega⟩
theorem scIsWare : FnScope ["thing"] ["thing"] (defScope sIsWare) := ⟨rfl, rfl, rfl, by decide +kernel, rfl, by decide +kernel, by decide +kernel⟩
theorem ok_isware {f : Addr} {fd : FuncData} {tk tk' : Tok} (F : Fun K "is_ware" "is_ware" sIsWare f fd) (T : Txt mg) (mM : mg "MOST_LETTERS" = some (.int 8 tk)) (mL : mg "LETTERS" = some (.str LET tk')) : FnOk P w K mg base CX0 1 f fd ["thing"] (spIsWare K) := by
  refine F.ok scIsWare (fun vs H Q E h => ?_) (fun cdv A outer s H vs Q E hr h => ?_)
  · obtain ⟨_, rfl, _⟩ := h
    rfl
  · obtain ⟨v, rfl, h⟩ := h
    refine ⟨_, (pss_cons (ps_if (pt_not (pt_val (pe_callB call_isiZ rfl T.isi boot_isinstance (pa_cons (pv 0) (pa_cons (pe_bltn (v := .ty "str") rfl T.str' bt_str rfl) pa_nil)))))
        (pss_one (ps_ret pe_bl)) pss_nil)
      (pss_one (ps_ret (pe_and (pe_chain op_le op_le pe_int (pe_callB call_len_str rfl T.len PySem.boot_len (pa_cons (pv 0) pa_nil)) (pe_glob (v := .int 8) rfl mM ⟨_, rfl⟩)) (pe_one (pe_callB (call_allB rfl) rfl T.all' boot_all (pa_cons (pe_comp (N' := ["sign"]) (cl := []) (fun _ => [none]) rfl rfl (by decide +kernel) (by decide +kernel) (clOk_plain (by decide +kernel)) (fun _ _ => blkN_none)
            (pi_str (pv 0)) (fun _ _ _ _ _ => pg_name (i := 0) nd1 rfl (Or.inl rfl)) (fun _ _ _ _ _ => pifs_nil) (fun _ _ _ _ _ => pe_cmpR op_in_str (pv 0) (pe_glob (v := .str LET) rfl mL ⟨_, rfl⟩) rfl)) pa_nil))))))), ?_⟩
    rcases h with ⟨hi, hb⟩ | ⟨x, rfl, hl, kT, kF⟩
    · exact ⟨_, rfl, v, "str", false, rfl, hi, _, rfl, iteT hb⟩
    · have hz := sz1000 hl
      have le := lenC x
      refine ⟨_, rfl, _, "str", true, rfl, .inl .str_str, _, rfl, iteF ?_⟩
      refine ⟨_, rfl, x, rfl, hz, _, _, rfl, rfl, _, rfl, ite2 (fun h1 => ?_) (fun h1 => ?_)⟩
      · have h1' : (1 : Int) ≤ (x.length : Int) := of_decide_eq_true h1
        refine ⟨_, _, rfl, rfl, _, rfl, ?_⟩
        by_cases h2 : (x.length : Int) ≤ 8
        · rw [decide_eq_true h2]
          refine iteT ⟨_, rfl, x, rfl, fun D hD => ?_⟩
          refine comp_str (fun i ys H' => ys = ((cps x).take i).map (fun c => V.bl (decide (97 ≤ c ∧ c ≤ 122))) ∧ Same H H' ∧ H' D = some (.lst ys)) ⟨by simp, Same.upd hD, upd_same⟩ ?_ ?_ ?_
          · rintro i ys H' hi ⟨rfl, _, hD'⟩
            refine ⟨hD', ?_⟩
            rw [List.length_map, List.length_take]
            exact small1000 (by omega)
          · rintro i c ys H' hc ⟨rfl, sm, hD'⟩
            refine ⟨(Keep.refl _).set rfl, ?_⟩
            unfold tNoIf
            dsimp only
            rw [if_pos rfl]
            refine ⟨_, rfl, _, _, rfl, rfl, hD', Nx.mk (List.getElem?_eq_some_iff.mp hc).1 ⟨?_, fun b o hb => ?_, upd_same⟩⟩
            · rw [let_mem, List.take_add_one, hc, List.map_append]
              rfl
            · have ne : b ≠ D := fun z => by rw [z, hD] at hb; cases hb
              rw [upd_ne ne]
              exact sm b o hb
          · rintro ys H' ⟨rfl, sm, hD'⟩
            rw [List.take_of_length_le (Nat.le_refl _)] at hD'
            refine ⟨D, (cps x).map (fun c => decide (97 ≤ c ∧ c ≤ 122)), rfl, SqL.of (by rw [List.map_map]; exact hD'), ?_⟩
            by_cases a : ∀ c ∈ cps x, 97 ≤ c ∧ c ≤ 122
            · have e : ((cps x).map (fun c => decide (97 ≤ c ∧ c ≤ 122))).all id = true := by
                rw [List.all_map, List.all_eq_true]
                exact fun c hc => decide_eq_true (a c hc)
              rw [e]
              exact kT ⟨by omega, by omega, a⟩ _ sm
            · have e : ((cps x).map (fun c => decide (97 ≤ c ∧ c ≤ 122))).all id = false := by
                rw [Bool.eq_false_iff, Ne, List.all_map, List.all_eq_true]
                exact fun h => a fun c hc => of_decide_eq_true (h c hc)
              rw [e]
              exact kF (fun z => a z.lt) _ sm
        · rw [decide_eq_false h2]
          exact iteF (kF (fun z => h2 (by have := z.l8; omega)) _ (Same.refl _))
      · have h1' : ¬ (1 : Int) ≤ (x.length : Int) := fun z => h1 (decide_eq_true z)
        exact ⟨_, rfl, iteF (kF (fun z => h1' (by have := z.l1; omega)) _ (Same.refl _))⟩
end
end K31

namespace L2
open PySem PySem.Spec PyProof.Rows
/-- < of texts, or of tuples of texts -/
def rLtU (K : PySem.W.Frag) : R2 := fun x y H Q => (∃ i j, x = .str i ∧ y = .str j ∧ Q (.bl (decide (i.cps.toList < j.cps.toList))) H) ∨ rLtTS K x y H Q
theorem op_ltU {X : Cx} {K : PySem.W.Frag} (h : X.K = K) (hu : X.A.units + 64 < cLine) : OpR X (compareOp .Lt) (rLtU K) := by
  subst h
  intro pins s σ H x y v u Q I rx ry h
  rcases h with h | h
  · exact op_lt_str pins s σ H x y v u Q I rx ry h
  · exact op_ltTS (Nat.lt_of_le_of_lt (Nat.le_add_right _ 64) hu) pins s σ H x y v u Q I rx ry h
theorem bools_of {rel : Nat → Prop} : ∀ (ys : List V), (∀ (i : Nat) y, ys[i]? = some y → ∃ b : Bool, y = .bl b ∧ (b = true ↔ rel i)) → ∃ bs : List Bool, ys = bs.map V.bl ∧ (bs.all id = true ↔ ∀ i, i < ys.length → rel i) := by
  intro ys
  induction ys generalizing rel with
  | nil => exact fun _ => ⟨[], rfl, by simp⟩
  | cons y r ih =>
    intro h
    obtain ⟨b, rfl, hb⟩ := h 0 y rfl
    obtain ⟨bs, rfl, hs⟩ := ih (rel := fun i => rel (i + 1)) fun i z hz => h (i + 1) z (by simpa using hz)
    refine ⟨b :: bs, rfl, ?_⟩
    rw [List.all_cons, Bool.and_eq_true, hs]
    show (b = true ∧ _) ↔ _
    rw [hb]
    constructor
    · rintro ⟨h0, h1⟩ i hi
      cases i with
      | zero => exact h0
      | succ i => exact h1 i (by simpa using hi)
    · intro h2
      exact ⟨h2 0 (by simp), fun i hi => h2 (i + 1) (by simpa using hi)⟩
end L2
namespace K31
open PySem PySem.Spec PyProof.Rows L2 GM TM
inductive AmV (K : PySem.W.Frag) (H : Hp) : V → Bool → Prop where
  | two {a t b} : SqT K H a [.int t, .int b] → AmV K H (.ref a) (decide (0 ≤ t) && (decide (1 ≤ b) && decide (G t b = 1)))
  | tru {a k b} : SqT K H a [.bl k, .int b] → AmV K H (.ref a) false
  | len {a xs} : SqT K H a xs → xs.length ≠ 2 → AmV K H (.ref a) false
  | int {n} : AmV K H (.int n) false
  | non : AmV K H .non false
def spWhN : Sp := fun vs H Q _ => ∃ v β, vs = [v] ∧ ((∃ n, v = .int n ∧ β = true) ∨ ∃ b, v = .bl b ∧ β = false) ∧ Q (.bl β) H
def spIsAm (K : PySem.W.Frag) : Sp := fun vs H Q _ => ∃ v β, vs = [v] ∧ AmV K H v β ∧ Q (.bl β) H
abbrev ltP (p q : Str × Str) : Prop := HT.lexLtS [p.1, p.2] [q.1, q.2] = true
def PsL (K : PySem.W.Frag) (H : Hp) (us : List V) (ps : List (Str × Str)) : Prop := us.length = ps.length ∧ ∀ (i : Nat) u p, us[i]? = some u → ps[i]? = some p → ∃ q, u = .ref q ∧ SqT K H q [.str p.1, .str p.2]
def Rising (ps : List (Str × Str)) : Prop := ∀ (i : Nat) p q, ps[i]? = some p → ps[i + 1]? = some q → ltP p q
theorem PsL.keep {K : PySem.W.Frag} {H H' : Hp} {us : List V} {ps : List (Str × Str)} (h : PsL K H us ps) (s : Same H H') : PsL K H' us ps := ⟨h.1, fun i u p hu hp => by
  obtain ⟨q, e, sq⟩ := h.2 i u p hu hp
  exact ⟨q, e, s.tup sq⟩⟩
def spRis (K : PySem.W.Frag) : Sp := fun vs H Q _ => ∃ a, vs = [.ref a] ∧ ((∃ x y, SqT K H a [.str x, .str y] ∧ ∀ (β : Bool) H', Same H H' → (β = true ↔ x.cps.toList < y.cps.toList) → Q (.bl β) H') ∨
  ∃ us ps, SqT K H a us ∧ PsL K H us ps ∧ ps.length ≤ 40 ∧ ∀ (β : Bool) H', Same H H' → (β = true ↔ Rising ps) → Q (.bl β) H')
inductive PairV (K : PySem.W.Frag) (H : Hp) : V → Bool → Prop where
  | two {a x y} : SqT K H a [.str x, .str y] → x.length ≤ 1000 → y.length ≤ 1000 → PairV K H (.ref a) (decide (Wr x) && (decide (Wr y) && decide (x.cps.toList < y.cps.toList)))
  | odd {a x n} : SqT K H a [.str x, .int n] → x.length ≤ 1000 → PairV K H (.ref a) false
  | len {a xs} : SqT K H a xs → xs.length ≠ 2 → PairV K H (.ref a) false
  | lst {a xs} : SqL K H a xs → PairV K H (.ref a) false
theorem PairV.keep {K : PySem.W.Frag} {H H' : Hp} {v : V} {β : Bool} (h : PairV K H v β) (s : Same H H') : PairV K H' v β := by
  cases h with
  | two h a b => exact .two (s.tup h) a b
  | odd h a => exact .odd (s.tup h) a
  | len h a => exact .len (s.tup h) a
  | lst h => exact .lst (s.seq h)
def spIsPair (K : PySem.W.Frag) : Sp := fun vs H Q _ => ∃ v β, vs = [v] ∧ PairV K H v β ∧ ∀ H', Same H H' → Q (.bl β) H'
section
variable {P : Program} {w : World} {K : PySem.W.Frag} {mg : Str → Option Value} {base : Heap}
theorem scIsWh : FnScope ["thing"] ["thing"] (defScope sIsWh) := ⟨rfl, rfl, rfl, by decide +kernel, rfl, by decide +kernel, by decide +kernel⟩
theorem ok_iswh {f : Addr} {fd : FuncData} (F : Fun K "is_whole_number" "is_whole_number" sIsWh f fd) (T : Txt mg) : FnOk P w K mg base CX0 1 f fd ["thing"] spWhN := by
  refine F.ok scIsWh (fun vs H Q E h => ?_) (fun cdv A outer s H vs Q E hr h => ?_)
  · obtain ⟨_, _, rfl, _⟩ := h
    rfl
  · obtain ⟨v, β, rfl, h, k⟩ := h
    refine ⟨_, pss_one (ps_ret (pe_and (pe_callB call_isi rfl T.isi boot_isinstance (pa_cons (pv 0) (pa_cons (pe_bltn (v := .ty "int") rfl T.int' bt_int rfl) pa_nil)))
      (pe_one (pe_not (pe_callB call_isi rfl T.isi boot_isinstance (pa_cons (pv 0) (pa_cons (pe_bltn (v := .ty "bool") rfl T.bool' bt_bool rfl) pa_nil))))))), ?_⟩
    rcases h with ⟨n, rfl, rfl⟩ | ⟨b, rfl, rfl⟩
    · exact ⟨_, rfl, _, "int", true, rfl, .int_int, _, rfl, iteT ⟨_, rfl, _, "bool", false, rfl, .int_bool, _, rfl, k⟩⟩
    · exact ⟨_, rfl, _, "int", true, rfl, .bl_int, _, rfl, iteT ⟨_, rfl, _, "bool", true, rfl, .bl_bool, _, rfl, k⟩⟩
theorem scIsAm : FnScope ["thing"] ["thing"] (defScope sIsAm) := ⟨rfl, rfl, rfl, by decide +kernel, rfl, by decide +kernel, by decide +kernel⟩
theorem ok_isam {f : Addr} {fd : FuncData} (F : Fun K "is_amount" "is_amount" sIsAm f fd) (T : Txt mg) (cW : Cal P w K mg base CX0 1 "is_whole_number" ["thing"] spWhN) (cG : Cal P w K mg base CX0 1 "common_divisor" ["one", "other"] spGcd) : FnOk P w K mg base CX0 2 f fd ["thing"] (spIsAm K) := by
  refine F.ok scIsAm (fun vs H Q E h => ?_) (fun cdv A outer s H vs Q E hr h => ?_)
  · obtain ⟨_, _, rfl, _⟩ := h
    rfl
  · obtain ⟨v, β, rfl, h, k⟩ := h
    refine ⟨_, (pss_cons (ps_if (PW.pt (pw_or (pt_not (pt_val (pe_callB call_isi rfl T.isi boot_isinstance (pa_cons (pv 0) (pa_cons (pe_bltn (v := .ty "tuple") rfl T.tup' bt_tuple rfl) pa_nil))))) (pw_or1 (pt_cmpR op_ne (pe_callB call_len_seq rfl T.len PySem.boot_len (pa_cons (pv 0) pa_nil)) pe_int (nomark _)))))
        (pss_one (ps_ret pe_bl))
        pss_nil)
      (pss_cons (ps_if (PW.pt (pw_or (pt_not (pt_val (pe_cal cW hr rfl pass0 (pa_cons (pit 0 0) pa_nil)))) (pw_or1 (pt_not (pt_val (pe_cal cW hr rfl pass0 (pa_cons (pit 0 1) pa_nil)))))))
        (pss_one (ps_ret pe_bl))
        pss_nil)
      (pss_one (ps_ret (pe_and (pe_cmpR op_ge (pit 0 0) pe_int (nomark _)) (pe_and (pe_cmpR op_ge (pit 0 1) pe_int (nomark _)) (pe_one (pe_cmpR op_eq (pe_cal cG hr rfl pass0 (pa_cons (pit 0 0) (pa_cons (pit 0 1) pa_nil))) pe_int (nomark _))))))))), ?_⟩
    have kk : ∀ b : Bool, b = β → Q (.bl b) H := fun _ e => e ▸ k
    cases h with
    | int => exact ⟨_, rfl, _, "tuple", false, rfl, .int_tuple, _, rfl, iteT k⟩
    | non => exact ⟨_, rfl, _, "tuple", false, rfl, .non_tuple, _, rfl, iteT k⟩
    | @len a xs h n =>
      refine ⟨_, rfl, _, "tuple", true, rfl, .tup_tuple h, _, rfl, iteF ⟨_, rfl, a, _, rfl, .inr h, rfl, _, rfl, ite2 (fun _ => k) (fun hc => ?_)⟩⟩
      exfalso
      refine hc ?_
      have e : decide (V.int (xs.length : Int) = V.int 2) = false := decide_eq_false fun z => n (by have := V.int.inj z; omega)
      show (!decide (V.int (xs.length : Int) = V.int 2)) = true
      rw [e]
      rfl
    | @tru a kb b h =>
      refine ⟨_, rfl, _, "tuple", true, rfl, .tup_tuple h, _, rfl, iteF ⟨_, rfl, a, _, rfl, .inr h, rfl, _, rfl, iteF ?_⟩⟩
      exact ⟨a, _, _, rfl, h, rfl, .bl kb, false, rfl, .inr ⟨kb, rfl, rfl⟩, _, rfl, iteT k⟩
    | @two a t b h =>
      refine ⟨_, rfl, _, "tuple", true, rfl, .tup_tuple h, _, rfl, iteF ⟨_, rfl, a, _, rfl, .inr h, rfl, _, rfl, iteF ?_⟩⟩
      refine ⟨a, _, _, rfl, h, rfl, .int t, true, rfl, .inl ⟨t, rfl, rfl⟩, _, rfl, iteF ⟨a, _, _, rfl, h, rfl, .int b, true, rfl, .inl ⟨b, rfl, rfl⟩, _, rfl, iteF ?_⟩⟩
      refine ⟨a, _, _, rfl, h, rfl, _, _, rfl, rfl, _, rfl, ite2 (fun h0 => ?_) (fun h0 => ?_)⟩
      · have t0 : 0 ≤ t := of_decide_eq_true h0
        refine ⟨a, _, _, rfl, h, rfl, _, _, rfl, rfl, _, rfl, ite2 (fun h1 => ?_) (fun h1 => ?_)⟩
        · have b1 : 1 ≤ b := of_decide_eq_true h1
          refine ⟨a, _, _, rfl, h, rfl, a, _, _, rfl, h, rfl, t, b, rfl, t0, by omega, rfl, kk _ ?_⟩
          rw [decide_eq_true t0, decide_eq_true b1]
          simp
        · refine kk _ ?_
          have nb : ¬ 1 ≤ b := fun z => h1 (decide_eq_true z)
          rw [decide_eq_true t0, decide_eq_false nb]
          rfl
      · refine kk _ ?_
        have nt : ¬ 0 ≤ t := fun z => h0 (decide_eq_true z)
        rw [decide_eq_false nt]
        rfl
theorem ndRis : (["place", "some"] : List Str).Nodup := by decide +kernel
theorem scRising : FnScope ["some"] ["some"] (defScope sRising) := ⟨rfl, rfl, rfl, by decide +kernel, rfl, by decide +kernel, by decide +kernel⟩
theorem ok_rising {f : Addr} {fd : FuncData} (F : Fun K "is_rising" "is_rising" sRising f fd) (T : Txt mg) : FnOk P w K mg base CX0 1 f fd ["some"] (spRis K) := by
  refine F.ok scRising (fun vs H Q E h => ?_) (fun cdv A outer s H vs Q E hr h => ?_)
  · obtain ⟨_, rfl, _⟩ := h
    rfl
  · obtain ⟨a, rfl, h⟩ := h
    refine ⟨_, pss_one (ps_ret (pe_callB (call_allB rfl) rfl T.all' boot_all (pa_cons (pe_compC (N' := ["place", "some"]) (fun σ => [none, some 0].map fun t => t.bind fun j => (σ[j]?).join) rfl rfl (by decide +kernel) (by decide +kernel)
        (hk_of (sc := defScope sRising) rfl (by decide +kernel)) (fun _ _ _ => blkN_by (sc := defScope sRising) (N := ["some"]) [none, some 0] rfl rfl rfl rfl (by decide +kernel))
        (pi_range1 rfl T.range (pa_cons (pe_op op_sub (pe_callB call_len_seq rfl T.len PySem.boot_len (pa_cons (pv 0) pa_nil)) pe_int) pa_nil)) (fun _ _ _ _ _ _ => pg_name (i := 0) ndRis rfl (Or.inl rfl)) (fun _ _ _ _ _ _ => pifs_nil)
        (fun _ _ _ _ _ _ => pe_cmpR (op_ltU (K := K) rfl hr.units) (pe_ix (ix_tupK (K := K) rfl) (pv 1) (pv 0) (fun _ _ => rfl)) (pe_ix (ix_tupK (K := K) rfl) (pv 1) (pe_op op_add (pv 0) pe_int) (fun _ _ => rfl)) (nomark _))) pa_nil))), ?_⟩
    obtain ⟨us, rel, sq, ul, hlt, hq⟩ : ∃ (us : List V) (rel : Nat → Prop), SqT K H a us ∧ us.length ≤ 40 ∧ (∀ (i : Nat) x y, us[i]? = some x → us[i + 1]? = some y → ∀ H' (R : VK), Same H H' → (∀ b : Bool, (b = true ↔ rel i) → R (.bl b) H') → rLtU K x y H' R) ∧
        (∀ (β : Bool) H', Same H H' → (β = true ↔ ∀ i, i + 1 < us.length → rel i) → Q (.bl β) H') := by
      rcases h with ⟨x, y, sq, k⟩ | ⟨us, ps, sq, hp, pl, k⟩
      · refine ⟨_, fun _ => x.cps.toList < y.cps.toList, sq, (by simp), (fun i u v hu hv H' R sm hR => ?_), (fun β H' sm hβ => k β H' sm (hβ.trans ⟨fun q => q 0 (by simp), fun q i _ => q⟩))⟩
        have i0 : i = 0 := by
          have := (List.getElem?_eq_some_iff.mp hv).1
          simp at this
          omega
        subst i0
        cases hu
        cases hv
        exact .inl ⟨x, y, rfl, rfl, hR _ decide_eq_true_iff⟩
      · refine ⟨us, (fun i => ∀ p q, ps[i]? = some p → ps[i + 1]? = some q → ltP p q), sq, (by rw [hp.1]; exact pl), (fun i u v hu hv H' R sm hR => ?_), (fun β H' sm hβ => k β H' sm (hβ.trans ⟨fun q i p r h1 h2 => q i (by rw [hp.1]; exact (List.getElem?_eq_some_iff.mp h2).1) p r h1 h2, fun q i _ p r h1 h2 => q i p r h1 h2⟩))⟩
        obtain ⟨p, h1⟩ : ∃ p, ps[i]? = some p := ⟨_, List.getElem?_eq_getElem (by rw [← hp.1]; exact (List.getElem?_eq_some_iff.mp hu).1)⟩
        obtain ⟨q, h2⟩ : ∃ q, ps[i + 1]? = some q := ⟨_, List.getElem?_eq_getElem (by rw [← hp.1]; exact (List.getElem?_eq_some_iff.mp hv).1)⟩
        obtain ⟨a1, rfl, s1⟩ := hp.2 i u p hu h1
        obtain ⟨a2, rfl, s2⟩ := hp.2 (i + 1) v q hv h2
        refine .inr ⟨a1, a2, [p.1, p.2], [q.1, q.2], rfl, rfl, sm.tup s1, sm.tup s2, hR _ ⟨fun z p' q' e1 e2 => ?_, fun z => z p q h1 h2⟩⟩
        rw [h1] at e1
        rw [h2] at e2
        cases e1
        cases e2
        exact z
    refine ⟨_, rfl, a, us, rfl, .inr sq, _, _, rfl, rfl, _, rfl, by omega, by omega, fun D hD => ?_⟩
    refine comp_rel (Ys.rng (lo := 0) (n := ((us.length : Int) - 1).toNat) (H1 := H)) (fun i _ y _ => ∃ b : Bool, y = .bl b ∧ (b = true ↔ rel i)) (fun _ _ _ _ _ h _ => h) hD (by rw [rngV_len]; omega) (fun i x H' R hx sm hR => ?_) (fun ys H' sm hD' yl hy => ?_)
    · obtain ⟨hi, rfl⟩ := rngV_get hx
      obtain ⟨x1, h1⟩ : ∃ x1, us[i]? = some x1 := ⟨_, List.getElem?_eq_getElem (by omega)⟩
      obtain ⟨x2, h2⟩ : ∃ x2, us[i + 1]? = some x2 := ⟨_, List.getElem?_eq_getElem (by omega)⟩
      have e1 : atI us ((0 : Int) + i) = some x1 := by rw [show ((0 : Int) + i) = ((i : Nat) : Int) by omega]; exact atI_nat h1
      have e2 : atI us ((0 : Int) + i + 1) = some x2 := by rw [show ((0 : Int) + i + 1) = ((i + 1 : Nat) : Int) by omega]; exact atI_nat h2
      refine ⟨(Keep.refl _).set rfl, _, rfl, _, rfl, a, us, _, x1, rfl, rfl, sm.tup sq, e1, _, rfl, _, rfl, _, _, rfl, rfl, a, us, _, x2, rfl, rfl, sm.tup sq, e2, ?_⟩
      exact hlt i x1 x2 h1 h2 H' R sm fun b hb => hR _ _ (Same.refl _) ⟨b, rfl, hb⟩
    · rw [rngV_len] at yl
      obtain ⟨bs, rfl, hb⟩ := bools_of (rel := rel) ys fun i y hyi => by
        obtain ⟨x, hx⟩ : ∃ x, (rngV 0 ((us.length : Int) - 1).toNat)[i]? = some x := ⟨_, List.getElem?_eq_getElem (by rw [rngV_len]; have := (List.getElem?_eq_some_iff.mp hyi).1; omega)⟩
        exact hy i x y hx hyi
      refine ⟨D, bs, rfl, SqL.of hD', hq _ _ sm (hb.trans ?_)⟩
      rw [List.length_map] at yl hb ⊢
      exact ⟨fun q i hi => q i (by omega), fun q i hi => q i (by omega)⟩
theorem scIsPair : FnScope ["thing"] ["thing"] (defScope sIsPair) := ⟨rfl, rfl, rfl, by decide +kernel, rfl, by decide +kernel, by decide +kernel⟩
theorem ok_ispair {f : Addr} {fd : FuncData} (F : Fun K "is_pair" "is_pair" sIsPair f fd) (T : Txt mg) (cW : Cal P w K mg base CX0 1 "is_ware" ["thing"] (spIsWare K)) (cR : Cal P w K mg base CX0 1 "is_rising" ["some"] (spRis K)) : FnOk P w K mg base CX0 2 f fd ["thing"] (spIsPair K) := by
  refine F.ok scIsPair (fun vs H Q E h => ?_) (fun cdv A outer s H vs Q E hr h => ?_)
  · obtain ⟨_, _, rfl, _⟩ := h
    rfl
  · obtain ⟨v, β, rfl, h, k⟩ := h
    refine ⟨_, (pss_cons (ps_if (PW.pt (pw_or (pt_not (pt_val (pe_callB call_isi rfl T.isi boot_isinstance (pa_cons (pv 0) (pa_cons (pe_bltn (v := .ty "tuple") rfl T.tup' bt_tuple rfl) pa_nil))))) (pw_or1 (pt_cmpR op_ne (pe_callB call_len_seq rfl T.len PySem.boot_len (pa_cons (pv 0) pa_nil)) pe_int (nomark _)))))
        (pss_one (ps_ret pe_bl))
        pss_nil)
      (pss_one (ps_ret (pe_and (pe_cal cW hr rfl pass0 (pa_cons (pit 0 0) pa_nil)) (pe_and (pe_cal cW hr rfl pass0 (pa_cons (pit 0 1) pa_nil)) (pe_one (pe_cal cR hr rfl pass0 (pa_cons (pv 0) pa_nil)))))))), ?_⟩
    have kk : ∀ (b : Bool) H', Same H H' → b = β → Q (.bl b) H' := fun _ _ s e => e ▸ k _ s
    cases h with
    | @lst a xs h => exact ⟨_, rfl, _, "tuple", false, rfl, .lst_tuple h, _, rfl, iteT (k _ (Same.refl _))⟩
    | @len a xs h n =>
      refine ⟨_, rfl, _, "tuple", true, rfl, .tup_tuple h, _, rfl, iteF ⟨_, rfl, a, _, rfl, .inr h, rfl, _, rfl, ite2 (fun _ => k _ (Same.refl _)) (fun hc => ?_)⟩⟩
      exfalso
      refine hc ?_
      have e : decide (V.int (xs.length : Int) = V.int 2) = false := decide_eq_false fun z => n (by have := V.int.inj z; omega)
      show (!decide (V.int (xs.length : Int) = V.int 2)) = true
      rw [e]
      rfl
    | @odd a x n h xl =>
      refine ⟨_, rfl, _, "tuple", true, rfl, .tup_tuple h, _, rfl, iteF ⟨_, rfl, a, _, rfl, .inr h, rfl, _, rfl, iteF ?_⟩⟩
      refine ⟨a, _, _, rfl, h, rfl, .str x, rfl, .inr ⟨x, rfl, xl, fun _ H1 s1 => ⟨_, rfl, iteT ?_⟩, fun _ H1 s1 => ⟨_, rfl, iteF (k _ s1)⟩⟩⟩
      exact ⟨a, _, _, rfl, s1.tup h, rfl, .int n, rfl, .inl ⟨.inl .int_str, ⟨_, rfl, iteF (k _ s1)⟩⟩⟩
    | @two a x y h xl yl =>
      refine ⟨_, rfl, _, "tuple", true, rfl, .tup_tuple h, _, rfl, iteF ⟨_, rfl, a, _, rfl, .inr h, rfl, _, rfl, iteF ?_⟩⟩
      refine ⟨a, _, _, rfl, h, rfl, .str x, rfl, .inr ⟨x, rfl, xl, fun wx H1 s1 => ⟨_, rfl, iteT ?_⟩, fun wx H1 s1 => ⟨_, rfl, iteF (kk _ _ s1 (by rw [decide_eq_false wx]; rfl))⟩⟩⟩
      refine ⟨a, _, _, rfl, s1.tup h, rfl, .str y, rfl, .inr ⟨y, rfl, yl, fun wy H2 s2 => ⟨_, rfl, iteT ?_⟩, fun wy H2 s2 => ⟨_, rfl, iteF (kk _ _ (s1.trans s2) (by rw [decide_eq_true wx, decide_eq_false wy]; rfl))⟩⟩⟩
      refine ⟨_, rfl, a, rfl, .inl ⟨x, y, (s1.trans s2).tup h, fun b H3 s3 hb => kk _ _ ((s1.trans s2).trans s3) ?_⟩⟩
      rw [decide_eq_true wx, decide_eq_true wy]
      by_cases q : x.cps.toList < y.cps.toList
      · rw [hb.mpr q, decide_eq_true q]
        rfl
      · rw [decide_eq_false q, Bool.eq_false_iff.mpr fun z => q (hb.mp z)]
        rfl
end
end K31

namespace L2
open PySem PySem.Spec PyProof.Rows
theorem op_neTK {X : Cx} {K : PySem.W.Frag} (h : X.K = K) (hu : X.A.units + 64 < cLine) : OpR X (compareOp .NotEq) (rNeT K) := by
  subst h
  exact op_neT hu
end L2
namespace K31
open PySem PySem.Spec PyProof.Rows L2 GM TM
theorem AmV.keep {K : PySem.W.Frag} {H H' : Hp} {v : V} {β : Bool} (h : AmV K H v β) (s : Same H H') : AmV K H' v β := by
  cases h with
  | two h => exact .two (s.tup h)
  | tru h => exact .tru (s.tup h)
  | len h n => exact .len (s.tup h) n
  | int => exact .int
  | non => exact .non
inductive RmV (K : PySem.W.Frag) (H : Hp) : V → Bool → Prop where
  | am {u} : AmV K H u false → RmV K H u false
  | yes {q t b} : SqT K H q [.int t, .int b] → 1 ≤ t → 1 ≤ b → G t b = 1 → RmV K H (.ref q) true
  | zero {q} : SqT K H q [.int 0, .int 1] → RmV K H (.ref q) false
theorem RmV.keep {K : PySem.W.Frag} {H H' : Hp} {v : V} {β : Bool} (h : RmV K H v β) (s : Same H H') : RmV K H' v β := by
  cases h with
  | am h => exact .am (h.keep s)
  | yes h a b c => exact .yes (s.tup h) a b c
  | zero h => exact .zero (s.tup h)
/-- things, each with its answer -/
def Each (P : V → Bool → Prop) (us : List V) (bs : List Bool) : Prop := us.length = bs.length ∧ ∀ (i : Nat) u b, us[i]? = some u → bs[i]? = some b → P u b
theorem Each.imp {P R : V → Bool → Prop} {us : List V} {bs : List Bool} (h : Each P us bs) (f : ∀ u b, P u b → R u b) : Each R us bs := ⟨h.1, fun i u b hu hb => f _ _ (h.2 i u b hu hb)⟩
theorem Each.get {P : V → Bool → Prop} {us : List V} {bs : List Bool} (h : Each P us bs) {i : Nat} {u : V} (hu : us[i]? = some u) : ∃ b, bs[i]? = some b ∧ P u b := by
  obtain ⟨b, hb⟩ : ∃ b, bs[i]? = some b := ⟨_, List.getElem?_eq_getElem (by rw [← h.1]; exact (List.getElem?_eq_some_iff.mp hu).1)⟩
  exact ⟨b, hb, h.2 i u b hu hb⟩
theorem Each.nil {P : V → Bool → Prop} : Each P [] [] := ⟨rfl, fun i u b h => by simp at h⟩
theorem Each.cons {P : V → Bool → Prop} {u : V} {b : Bool} {us : List V} {bs : List Bool} (h : P u b) (k : Each P us bs) : Each P (u :: us) (b :: bs) := by
  refine ⟨by rw [List.length_cons, List.length_cons, k.1], fun i x y hx hy => ?_⟩
  cases i with
  | zero =>
    simp at hx hy
    subst hx hy
    exact h
  | succ i => exact k.2 i x y (by simpa using hx) (by simpa using hy)
theorem Each.append {P : V → Bool → Prop} {us vs : List V} {bs cs : List Bool} (h : Each P us bs) (k : Each P vs cs) : Each P (us ++ vs) (bs ++ cs) := by
  refine ⟨by rw [List.length_append, List.length_append, h.1, k.1], fun j x d hx hd => ?_⟩
  by_cases hj : j < us.length
  · rw [List.getElem?_append_left hj] at hx
    rw [List.getElem?_append_left (by rw [← h.1]; exact hj)] at hd
    exact h.2 j x d hx hd
  · rw [List.getElem?_append_right (by omega)] at hx
    rw [List.getElem?_append_right (by rw [← h.1]; omega), ← h.1] at hd
    exact k.2 _ x d hx hd
/-- what a reading of each gives -/
theorem bls_eq {ys : List V} {bs : List Bool} (hl : ys.length = bs.length) (h : ∀ (i : Nat) y b, ys[i]? = some y → bs[i]? = some b → y = .bl b) : ys = bs.map V.bl := by
  refine list_eq (by rw [List.length_map]; exact hl) fun i x y hx hy => ?_
  rw [List.getElem?_map] at hx
  cases e : bs[i]? with
  | none => rw [e] at hx; cases hx
  | some b =>
    rw [e] at hx
    cases hx
    exact h i y b hy e
inductive RoomsV (K : PySem.W.Frag) (H : Hp) : V → Bool → Prop where
  | sq {a us bs} : SqT K H a us → 1 ≤ us.length → us.length ≤ 16 → Each (RmV K H) us bs → RoomsV K H (.ref a) (bs.all id)
  | none {a} : SqT K H a [] → RoomsV K H (.ref a) false
  | many {a us} : SqT K H a us → 16 < us.length → RoomsV K H (.ref a) false
  | lst {a us} : SqL K H a us → RoomsV K H (.ref a) false
theorem RoomsV.keep {K : PySem.W.Frag} {H H' : Hp} {v : V} {β : Bool} (h : RoomsV K H v β) (s : Same H H') : RoomsV K H' v β := by
  cases h with
  | sq h a b c => exact .sq (s.tup h) a b (c.imp fun _ _ z => z.keep s)
  | none h => exact .none (s.tup h)
  | many h n => exact .many (s.tup h) n
  | lst h => exact .lst (s.seq h)
inductive PairsV (K : PySem.W.Frag) (H : Hp) : V → Bool → Prop where
  | sq {a us bs β} : SqT K H a us → us.length ≤ 30 → Each (PairV K H) us bs → (bs.all id = false → β = false) → (bs.all id = true → ∃ ps, PsL K H us ps ∧ (β = true ↔ Rising ps)) → PairsV K H (.ref a) β
  | many {a us} : SqT K H a us → 30 < us.length → PairsV K H (.ref a) false
  | lst {a us} : SqL K H a us → PairsV K H (.ref a) false
theorem PairsV.keep {K : PySem.W.Frag} {H H' : Hp} {v : V} {β : Bool} (h : PairsV K H v β) (s : Same H H') : PairsV K H' v β := by
  cases h with
  | sq h a b c d => exact .sq (s.tup h) a (b.imp fun _ _ z => z.keep s) c (fun z => by
      obtain ⟨ps, p1, p2⟩ := d z
      exact ⟨ps, p1.keep s, p2⟩)
  | many h n => exact .many (s.tup h) n
  | lst h => exact .lst (s.seq h)
inductive BenchV (K : PySem.W.Frag) (H : Hp) : V → Bool → Prop where
  | two {a x y b1 b2} : SqT K H a [x, y] → RoomsV K H x b1 → PairsV K H y b2 → BenchV K H (.ref a) (b1 && b2)
  | len {a us} : SqT K H a us → us.length ≠ 2 → BenchV K H (.ref a) false
  | lst {a us} : SqL K H a us → BenchV K H (.ref a) false
  | non : BenchV K H .non false
def spRooms (K : PySem.W.Frag) : Sp := fun vs H Q _ => ∃ v β, vs = [v] ∧ RoomsV K H v β ∧ ∀ H', Same H H' → Q (.bl β) H'
def spPairs (K : PySem.W.Frag) : Sp := fun vs H Q _ => ∃ v β, vs = [v] ∧ PairsV K H v β ∧ ∀ H', Same H H' → Q (.bl β) H'
def spIsBench (K : PySem.W.Frag) : Sp := fun vs H Q _ => ∃ v β, vs = [v] ∧ BenchV K H v β ∧ ∀ H', Same H H' → Q (.bl β) H'
abbrev EE : Dt := .t [.t [], .t []]
def spClean (K : PySem.W.Frag) : Sp := fun vs H Q _ => ∃ a r y us, vs = [.ref a] ∧ SqT K H a [.ref r, y] ∧ SqT K H r us ∧ us.length ≤ 16 ∧ ∀ p ys H', Same H H' → H p = none → H' p = some (.lst ys) → DL K H' 40 ys (List.replicate us.length EE) → Q (.ref p) H'
section
variable {P : Program} {w : World} {K : PySem.W.Frag} {mg : Str → Option Value} {base : Heap}
theorem ndRoom : (["room"] : List Str).Nodup := by decide +kernel
theorem ndPair : (["pair"] : List Str).Nodup := by decide +kernel
theorem scRooms : FnScope ["thing"] ["thing"] (defScope sRooms) := ⟨rfl, rfl, rfl, by decide +kernel, rfl, by decide +kernel, by decide +kernel⟩
theorem ok_rooms {f aN : Addr} {fd : FuncData} {tk : Tok} (F : Fun K "are_rooms" "are_rooms" sRooms f fd) (T : Txt mg) (mM : mg "MOST_ROOMS" = some (.int 16 tk)) (mN : mg "NOUGHT" = some (.ref aN)) (sN : ∀ H : Hp, SqT K H aN [.int 0, .int 1]) (cA : Cal P w K mg base CX0 2 "is_amount" ["thing"] (spIsAm K)) : FnOk P w K mg base CX0 3 f fd ["thing"] (spRooms K) := by
  refine F.ok scRooms (fun vs H Q E h => ?_) (fun cdv A outer s H vs Q E hr h => ?_)
  · obtain ⟨_, _, rfl, _⟩ := h
    rfl
  · obtain ⟨v, β, rfl, h, k⟩ := h
    refine ⟨_, (pss_cons (ps_if (PW.pt (pw_or (pt_not (pt_val (pe_callB call_isi rfl T.isi boot_isinstance (pa_cons (pv 0) (pa_cons (pe_bltn (v := .ty "tuple") rfl T.tup' bt_tuple rfl) pa_nil))))) (pw_or1 (pt_not (pt_chain op_le op_le pe_int (pe_callB call_len_seq rfl T.len PySem.boot_len (pa_cons (pv 0) pa_nil)) (pe_glob (v := .int 16) rfl mM ⟨_, rfl⟩))))))
        (pss_one (ps_ret pe_bl))
        pss_nil)
      (pss_one (ps_ret (pe_callB (call_allB rfl) rfl T.all' boot_all (pa_cons (pe_comp (N' := ["room"]) (cl := []) (fun _ => [none]) rfl rfl (by decide +kernel) (by decide +kernel) (clOk_plain (by decide +kernel)) (fun _ _ => blkN_none)
            (pi_tup (pv 0)) (fun _ _ _ _ _ => pg_name (i := 0) ndRoom rfl (Or.inl rfl)) (fun _ _ _ _ _ => pifs_nil)
            (fun _ _ _ _ _ => pe_and (pe_cal cA hr rfl pass0 (pa_cons (pv 0) pa_nil)) (pe_one (pe_cmpR (op_neTK (K := K) rfl hr.units) (pv 0) (pe_glob (v := .ref aN) rfl mN rfl) (nomark _))))) pa_nil))))), ?_⟩
    cases h with
    | @lst a us h => exact ⟨_, rfl, _, "tuple", false, rfl, .lst_tuple h, _, rfl, iteT (k _ (Same.refl _))⟩
    | @none a h => exact ⟨_, rfl, _, "tuple", true, rfl, .tup_tuple h, _, rfl, iteF ⟨_, rfl, a, _, rfl, .inr h, _, _, rfl, rfl, _, rfl, iteF ⟨_, rfl, iteT (k _ (Same.refl _))⟩⟩⟩
    | @many a us h n =>
      refine ⟨_, rfl, _, "tuple", true, rfl, .tup_tuple h, _, rfl, iteF ⟨_, rfl, a, _, rfl, .inr h, _, _, rfl, rfl, _, rfl, ite2 (fun h1 => ?_) (fun h1 => ?_)⟩⟩
      · refine ⟨_, _, rfl, rfl, _, rfl, ?_⟩
        rw [decide_eq_false (show ¬ ((us.length : Int) ≤ 16) by omega)]
        exact iteT (k _ (Same.refl _))
      · exact ⟨_, rfl, iteT (k _ (Same.refl _))⟩
    | @sq a us bs h l1 l16 hb =>
      refine ⟨_, rfl, _, "tuple", true, rfl, .tup_tuple h, _, rfl, iteF ⟨_, rfl, a, _, rfl, .inr h, _, _, rfl, rfl, _, rfl, ite2 (fun h1 => ?_) (fun h1 => ?_)⟩⟩
      · refine ⟨_, _, rfl, rfl, _, rfl, ?_⟩
        rw [decide_eq_true (show ((us.length : Int) ≤ 16) by omega)]
        refine iteF ⟨_, rfl, a, rfl, ⟨us, h⟩, fun D hD => ?_⟩
        refine comp_rel (Ys.tup h) (fun i _ y _ => ∀ b, bs[i]? = some b → y = .bl b) (fun _ _ _ _ _ h _ => h) hD (by omega) (fun i x H' R hx sm hR => ?_) (fun ys H' sm hD' yl hy => ?_)
        · obtain ⟨b, hbi, hv⟩ := hb.get hx
          have fin : ∀ c : Bool, c = b → R (.bl c) H' := fun c e => hR _ _ (Same.refl _) fun b' e' => by
            rw [hbi] at e'
            cases e'
            rw [e]
          refine ⟨(Keep.refl _).set rfl, _, rfl, ?_⟩
          cases hv with
          | am hv => exact ⟨x, false, rfl, hv.keep sm, _, rfl, iteF (fin _ rfl)⟩
          | @yes q t c hq t1 c1 g =>
            have hq' := sm.tup hq
            refine ⟨_, _, rfl, .two hq', _, rfl, ?_⟩
            rw [decide_eq_true (show 0 ≤ t by omega), decide_eq_true c1, decide_eq_true g]
            refine iteT ⟨_, rfl, q, aN, _, _, (fun j => match j with | 0 => eqV (.int t) (.int 0) | _ => eqV (.int c) (.int 1)), rfl, rfl, hq', sN _, fun j x y hx hy => ?_, fin _ ?_⟩
            · match j, hx, hy with
              | 0, hx, hy => cases hx; cases hy; exact DEq.flat rfl rfl
              | 1, hx, hy => cases hx; cases hy; exact DEq.flat rfl rfl
            · have : eqV (.int t) (.int 0) = false := by
                have : ¬ t = 0 := by omega
                simp [eqV, this]
              simp [this, List.range, List.range.loop]
          | @zero q hq =>
            have hq' := sm.tup hq
            refine ⟨_, _, rfl, .two hq', _, rfl, ?_⟩
            refine iteT ⟨_, rfl, q, aN, _, _, (fun j => match j with | 0 => eqV (.int 0) (.int 0) | _ => eqV (.int 1) (.int 1)), rfl, rfl, hq', sN _, fun j x y hx hy => ?_, fin _ rfl⟩
            match j, hx, hy with
            | 0, hx, hy => cases hx; cases hy; exact DEq.flat rfl rfl
            | 1, hx, hy => cases hx; cases hy; exact DEq.flat rfl rfl
        · have e := bls_eq (bs := bs) (yl.trans hb.1) fun i y b hy' hb' => by
            obtain ⟨x, hx⟩ : ∃ x, us[i]? = some x := ⟨_, List.getElem?_eq_getElem (by rw [hb.1]; exact (List.getElem?_eq_some_iff.mp hb').1)⟩
            exact hy i x y hx hy' b hb'
          subst e
          exact ⟨D, bs, rfl, SqL.of hD', k _ sm⟩
      · exfalso
        exact h1 (decide_eq_true (by show (1 : Int) ≤ us.length; omega))
theorem scPairs : FnScope ["thing"] ["thing"] (defScope sPairs) := ⟨rfl, rfl, rfl, by decide +kernel, rfl, by decide +kernel, by decide +kernel⟩
theorem ok_pairs {f : Addr} {fd : FuncData} {tk : Tok} (F : Fun K "are_pairs" "are_pairs" sPairs f fd) (T : Txt mg) (mM : mg "MOST_PAIRS" = some (.int 30 tk)) (cP : Cal P w K mg base CX0 2 "is_pair" ["thing"] (spIsPair K)) (cR : Cal P w K mg base CX0 2 "is_rising" ["some"] (spRis K)) : FnOk P w K mg base CX0 3 f fd ["thing"] (spPairs K) := by
  refine F.ok scPairs (fun vs H Q E h => ?_) (fun cdv A outer s H vs Q E hr h => ?_)
  · obtain ⟨_, _, rfl, _⟩ := h
    rfl
  · obtain ⟨v, β, rfl, h, k⟩ := h
    refine ⟨_, (pss_cons (ps_if (PW.pt (pw_or (pt_not (pt_val (pe_callB call_isi rfl T.isi boot_isinstance (pa_cons (pv 0) (pa_cons (pe_bltn (v := .ty "tuple") rfl T.tup' bt_tuple rfl) pa_nil))))) (pw_or1 (pt_cmpR op_gt (pe_callB call_len_seq rfl T.len PySem.boot_len (pa_cons (pv 0) pa_nil)) (pe_glob (v := .int 30) rfl mM ⟨_, rfl⟩) (nomark _)))))
        (pss_one (ps_ret pe_bl))
        pss_nil)
      (pss_one (ps_ret (pe_and (pe_callB (call_allB rfl) rfl T.all' boot_all (pa_cons (pe_comp (N' := ["pair"]) (cl := []) (fun _ => [none]) rfl rfl (by decide +kernel) (by decide +kernel) (clOk_plain (by decide +kernel)) (fun _ _ => blkN_none)
            (pi_tup (pv 0)) (fun _ _ _ _ _ => pg_name (i := 0) ndPair rfl (Or.inl rfl)) (fun _ _ _ _ _ => pifs_nil)
            (fun _ _ _ _ _ => pe_cal cP hr rfl pass0 (pa_cons (pv 0) pa_nil))) pa_nil)) (pe_one (pe_cal cR hr rfl pass0 (pa_cons (pv 0) pa_nil))))))), ?_⟩
    cases h with
    | @lst a us h => exact ⟨_, rfl, _, "tuple", false, rfl, .lst_tuple h, _, rfl, iteT (k _ (Same.refl _))⟩
    | @many a us h n =>
      refine ⟨_, rfl, _, "tuple", true, rfl, .tup_tuple h, _, rfl, iteF ⟨_, rfl, a, _, rfl, .inr h, _, _, rfl, rfl, _, rfl, ite2 (fun _ => k _ (Same.refl _)) (fun hc => ?_)⟩⟩
      exact absurd (decide_eq_true (show (us.length : Int) > 30 by omega)) hc
    | @sq a us bs _ h l30 hb hF hT =>
      refine ⟨_, rfl, _, "tuple", true, rfl, .tup_tuple h, _, rfl, iteF ⟨_, rfl, a, _, rfl, .inr h, _, _, rfl, rfl, _, rfl, ite2 (fun hc => ?_) (fun _ => ?_)⟩⟩
      · have : (us.length : Int) > 30 := of_decide_eq_true hc
        omega
      · refine ⟨_, rfl, a, rfl, ⟨us, h⟩, fun D hD => ?_⟩
        refine comp_rel (Ys.tup h) (fun i _ y _ => ∀ b, bs[i]? = some b → y = .bl b) (fun _ _ _ _ _ h _ => h) hD (by omega) (fun i x H' R hx sm hR => ?_) (fun ys H' sm hD' yl hy => ?_)
        · obtain ⟨b, hbi, hv⟩ := hb.get hx
          refine ⟨(Keep.refl _).set rfl, _, rfl, x, b, rfl, hv.keep sm, fun H2 s2 => hR _ _ s2 fun b' e' => ?_⟩
          rw [hbi] at e'
          cases e'
          rfl
        · have e := bls_eq (bs := bs) (yl.trans hb.1) fun i y b hy' hb' => by
            obtain ⟨x, hx⟩ : ∃ x, us[i]? = some x := ⟨_, List.getElem?_eq_getElem (by rw [hb.1]; exact (List.getElem?_eq_some_iff.mp hb').1)⟩
            exact hy i x y hx hy' b hb'
          subst e
          refine ⟨D, bs, rfl, SqL.of hD', _, rfl, ite2 (fun hc => ?_) (fun hc => ?_)⟩
          · obtain ⟨ps, p1, p2⟩ := hT hc
            refine ⟨_, rfl, a, rfl, .inr ⟨us, ps, sm.tup h, p1.keep sm, by rw [← p1.1]; omega, fun b H2 s2 hb2 => ?_⟩⟩
            have e2 : b = β := by
              have := hb2.trans p2.symm
              cases b <;> cases β <;> simp_all
            subst e2
            exact k _ (sm.trans s2)
          · have e1 : bs.all id = false := Bool.eq_false_iff.mpr hc
            have e2 := hF e1
            subst e2
            exact k _ sm
theorem scIsBench : FnScope ["thing"] ["thing"] (defScope sIsBench) := ⟨rfl, rfl, rfl, by decide +kernel, rfl, by decide +kernel, by decide +kernel⟩
theorem ok_isbench {f : Addr} {fd : FuncData} (F : Fun K "is_bench" "is_bench" sIsBench f fd) (T : Txt mg) (cR : Cal P w K mg base CX0 3 "are_rooms" ["thing"] (spRooms K)) (cP : Cal P w K mg base CX0 3 "are_pairs" ["thing"] (spPairs K)) : FnOk P w K mg base CX0 4 f fd ["thing"] (spIsBench K) := by
  refine F.ok scIsBench (fun vs H Q E h => ?_) (fun cdv A outer s H vs Q E hr h => ?_)
  · obtain ⟨_, _, rfl, _⟩ := h
    rfl
  · obtain ⟨v, β, rfl, h, k⟩ := h
    refine ⟨_, (pss_cons (ps_if (PW.pt (pw_or (pt_not (pt_val (pe_callB call_isi rfl T.isi boot_isinstance (pa_cons (pv 0) (pa_cons (pe_bltn (v := .ty "tuple") rfl T.tup' bt_tuple rfl) pa_nil))))) (pw_or1 (pt_cmpR op_ne (pe_callB call_len_seq rfl T.len PySem.boot_len (pa_cons (pv 0) pa_nil)) pe_int (nomark _)))))
        (pss_one (ps_ret pe_bl))
        pss_nil)
      (pss_one (ps_ret (pe_and (pe_cal cR hr rfl pass0 (pa_cons (pit 0 0) pa_nil)) (pe_one (pe_cal cP hr rfl pass0 (pa_cons (pit 0 1) pa_nil))))))), ?_⟩
    cases h with
    | non => exact ⟨_, rfl, _, "tuple", false, rfl, .non_tuple, _, rfl, iteT (k _ (Same.refl _))⟩
    | @lst a us h => exact ⟨_, rfl, _, "tuple", false, rfl, .lst_tuple h, _, rfl, iteT (k _ (Same.refl _))⟩
    | @len a xs h n =>
      refine ⟨_, rfl, _, "tuple", true, rfl, .tup_tuple h, _, rfl, iteF ⟨_, rfl, a, _, rfl, .inr h, rfl, _, rfl, ite2 (fun _ => k _ (Same.refl _)) (fun hc => ?_)⟩⟩
      exfalso
      refine hc ?_
      have e : decide (V.int (xs.length : Int) = V.int 2) = false := decide_eq_false fun z => n (by have := V.int.inj z; omega)
      show (!decide (V.int (xs.length : Int) = V.int 2)) = true
      rw [e]
      rfl
    | @two a x y b1 b2 h h1 h2 =>
      refine ⟨_, rfl, _, "tuple", true, rfl, .tup_tuple h, _, rfl, iteF ⟨_, rfl, a, _, rfl, .inr h, rfl, _, rfl, iteF ?_⟩⟩
      refine ⟨a, _, _, rfl, h, rfl, x, b1, rfl, h1, fun H1 s1 => ⟨_, rfl, ?_⟩⟩
      cases b1 with
      | false => exact iteF (k _ s1)
      | true => exact iteT ⟨a, _, _, rfl, s1.tup h, rfl, y, b2, rfl, h2.keep s1, fun H2 s2 => k _ (s1.trans s2)⟩
theorem scClean : FnScope ["bench"] ["bench"] (defScope sClean) := ⟨rfl, rfl, rfl, by decide +kernel, rfl, by decide +kernel, by decide +kernel⟩
theorem ok_clean {f : Addr} {fd : FuncData} (F : Fun K "clean" "clean" sClean f fd) : FnOk P w K mg base CX0 1 f fd ["bench"] (spClean K) := by
  refine F.ok scClean (fun vs H Q E h => ?_) (fun cdv A outer s H vs Q E hr h => ?_)
  · obtain ⟨_, _, _, _, rfl, _⟩ := h
    rfl
  · obtain ⟨a, r, y, us, rfl, ha, hr', ul, k⟩ := h
    refine ⟨_, (pss_one (ps_ret (pe_comp (N' := ["room"]) (cl := []) (fun _ => [none]) rfl rfl (by decide +kernel) (by decide +kernel) (clOk_plain (by decide +kernel)) (fun _ _ => blkN_none)
            (pi_tup (pit 0 0)) (fun _ _ _ _ _ => pg_name (i := 0) ndRoom rfl (Or.inl rfl)) (fun _ _ _ _ _ => pifs_nil)
            (fun _ _ _ _ _ => pe_tup (pa_cons (pe_tup pa_nil) (pa_cons (pe_tup pa_nil) pa_nil)))))), ?_⟩
    refine ⟨a, _, _, rfl, ha, rfl, r, rfl, ⟨us, hr'⟩, fun D hD => ?_⟩
    refine comp_rel (Ys.tup hr') (fun i _ y H => Dv K H 40 y EE) (fun _ _ _ _ _ h k => h.keep k) hD (by omega) (fun i x H' R hx sm hR => ?_) (fun ys H' sm hD' yl hy => ?_)
    · refine ⟨(Keep.refl _).set rfl, ⟨by decide, fun p1 n1 => ⟨by decide, fun p2 n2 => ⟨(by show 2 ≤ sizeLine; decide), fun p3 n3 => ?_⟩⟩⟩⟩
      refine hR _ _ (((Same.upd n1).trans (Same.upd n2)).trans (Same.upd n3)) ?_
      have e1 : (upd (upd (upd H' p1 (.tup [])) p2 (.tup [])) p3 (.tup [.ref p1, .ref p2])) p1 = some (.tup []) := Same.upd n3 _ _ (Same.upd n2 _ _ upd_same)
      have e2 : (upd (upd (upd H' p1 (.tup [])) p2 (.tup [])) p3 (.tup [.ref p1, .ref p2])) p2 = some (.tup []) := Same.upd n3 _ _ upd_same
      exact (Dv.two (n := 1) (.of upd_same) (Dv.tup (n := 0) (.of e1) .nil) (Dv.tup (n := 0) (.of e2) .nil)).mono (by decide)
    · refine k D ys H' sm hD hD' ⟨by rw [yl, List.length_replicate], fun j x d hx hd => ?_⟩
      obtain ⟨u, hu⟩ : ∃ u, us[j]? = some u := ⟨_, List.getElem?_eq_getElem (by rw [← yl]; exact (List.getElem?_eq_some_iff.mp hx).1)⟩
      have : d = EE := List.eq_of_mem_replicate (List.mem_of_getElem? hd)
      subst this
      exact hy j u x hu hx
end
end K31

namespace L2
open PySem PySem.Spec PyProof.Rows
/-! ### texts joined, str of an int or a text -/
/-- the text that join tells -/
def jn (sep : Str) : List Str → Str
  | [x] => x
  | l => Builtin.Str.glued sep l
def rJoin (K : PySem.W.Frag) : V → List V → Hp → VK → Prop := fun z vs H Q => ∃ sep a ss, z = .str sep ∧ vs = [.ref a] ∧ SqL K H a (ss.map V.str) ∧ sep.length ≤ 10 ∧ ss.length ≤ 100 ∧ (∀ x ∈ ss, x.length ≤ 1000) ∧ Q (.str (jn sep ss)) H
/-- for over a text's signs -/
theorem for_str {x : Str} {g : TG} {tb : TS} {D : Ends} {σ : St} {H : Hp} (Pv : Nat → St → Hp → Prop) (h0 : Pv 0 σ H)
    (hs : ∀ i c σ H, x.cps[i]? = some c → Pv i σ H → g (.str ⟨#[c]⟩) σ H fun σ2 H2 => tb { D with nx := Pv (i + 1), ct := Pv (i + 1), bk := D.nx } σ2 H2) (hd : ∀ σ H, Pv x.cps.size σ H → D.nx σ H) :
    ∃ W : Nat → Nat → St → Hp → Prop, (∃ m, W 0 m σ H) ∧ ∀ i m σ H, W i m σ H →
      ((Its x).stop i H ∧ D.nx σ H) ∨ ((Its x).go i H ∧ ∃ N : St → Hp → Prop, (∀ σ' H', N σ' H' → ∃ m', m' < m ∧ W (i + 1) m' σ' H') ∧ ∀ v H', (Its x).yld i H v H' → g v σ H' fun σ2 H2 => tb { D with nx := N, ct := N, bk := D.nx } σ2 H2) := by
  refine ⟨fun i m σ H => m = x.cps.size - i ∧ i ≤ x.cps.size ∧ Pv i σ H, ⟨x.cps.size, by simp, Nat.zero_le _, h0⟩, ?_⟩
  rintro i m σ H ⟨rfl, hi, p⟩
  by_cases hlt : i < x.cps.size
  · refine .inr ⟨⟨x.cps[i], Array.getElem?_eq_getElem hlt⟩, Pv (i + 1), fun σ' H' p' => ⟨x.cps.size - (i + 1), by omega, rfl, hlt, p'⟩, fun v H' y => ?_⟩
    obtain ⟨e, c, hc, rfl⟩ := y
    subst e
    exact hs i c σ _ hc p
  · have e : i = x.cps.size := by omega
    subst e
    exact .inl ⟨Array.getElem?_eq_none (Nat.le_refl _), hd σ H p⟩
section
variable {X : Cx}
/-- the text of an int or a text -/
def tx : V → Str
  | .int n => toString n
  | .str x => x
  | _ => Str.empty
def TxOk (v : V) : Prop := (∃ n : Nat, v = .int n ∧ n < 10 ^ 60) ∨ ∃ x, v = .str x ∧ x.length ≤ 100
end
end L2

namespace K31
open PySem PySem.Spec PyProof.Rows L2 GM TM
/-- all but the object at a has stayed -/
def SmB (a : Addr) (H H' : Hp) : Prop := ∀ b o, b ≠ a → H b = some o → H' b = some o
theorem SmB.refl {a : Addr} {H : Hp} : SmB a H H := fun _ _ _ h => h
theorem SmB.trans {a : Addr} {H H1 H2 : Hp} (h : SmB a H H1) (k : SmB a H1 H2) : SmB a H H2 := fun b o n e => k b o n (h b o n e)
theorem SmB.upd {a : Addr} {H : Hp} {o : HO} : SmB a H (upd H a o) := fun b u n e => by rw [upd_ne n]; exact e
theorem SmB.own {a p : Addr} {H H' : Hp} {o : HO} (h : SmB a H H') (n : H p = none) : SmB a H (L2.upd H' p o) := fun b u nb e => by
  have ne : b ≠ p := fun z => by rw [z, n] at e; cases e
  rw [upd_ne ne]
  exact h b u nb e
/-- what is left of a cell's digits -/
def Lf (H : Hp) (a : Addr) : Prop := ∃ n : Int, H a = some (.lst [.int n]) ∧ 0 ≤ n
theorem Lf.keep {H H' : Hp} {a : Addr} (h : Lf H a) (s : Same H H') : Lf H' a := by
  obtain ⟨n, e, r⟩ := h
  exact ⟨n, s _ _ e, r⟩
theorem Lf.there {H : Hp} {a b : Addr} (h : Lf H a) (n : H b = none) : b ≠ a := fun z => by
  obtain ⟨_, e, _⟩ := h
  rw [← z, n] at e
  cases e
theorem Lf.own {H : Hp} {a p : Addr} {o : HO} (h : Lf H a) (n : p ≠ a) : Lf (upd H p o) a := by
  obtain ⟨m, e, r⟩ := h
  exact ⟨m, by rw [upd_ne (Ne.symm n)]; exact e, r⟩
def spMixed : Sp := fun vs H Q _ => ∃ c k : Int, vs = [.int c, .int k] ∧ 0 ≤ k ∧ k ≤ 1000 ∧ ∀ n : Int, 0 ≤ n → n < 2147483647 → Q (.int n) H
def spLowest : Sp := fun vs H Q _ => ∃ t b : Int, vs = [.int t, .int b] ∧ 0 ≤ t ∧ 1 ≤ b ∧ Bt 9000 b ∧ ∀ p H', Same H H' → H p = none → H' p = some (.tup [.int (t / G t b), .int (b / G t b)]) → Q (.ref p) H'
def spDigit : Sp := fun vs H Q _ => ∃ (a : Addr) (m : Int), vs = [.ref a, .int m] ∧ Lf H a ∧ 1 ≤ m ∧ Bt 9000 m ∧ ∀ (d : Int) H', 0 ≤ d → d < m → SmB a H H' → Lf H' a → Q (.int d) H'
def spNames : Sp := fun vs H Q _ => ∃ a : Addr, vs = [.ref a] ∧ Lf H a ∧ ∀ (ws : List Str) p H', ws.length = 6 → ws.Nodup → (∀ x ∈ ws, Wr x) → SmB a H H' → H p = none → p ≠ a → H' p = some (.lst (ws.map V.str)) → Q (.ref p) H'
/-- a room: what is more than nought, in lowest terms -/
structure Rm (t b : Int) : Prop where
  t1 : 1 ≤ t
  b1 : 1 ≤ b
  g : G t b = 1
def spMuch : Sp := fun vs H Q _ => ∃ n : Int, vs = [.int n] ∧ 0 ≤ n ∧ n < 2147483647 ∧ ∀ t b p H', Rm t b → Same H H' → H p = none → H' p = some (.tup [.int t, .int b]) → Q (.ref p) H'
theorem low_rm {t b : Int} (h0 : 1 ≤ t) (h1 : 1 ≤ b) : Rm (t / G t b) (b / G t b) := by
  have a := low_amt (t := t) (b := b) (by omega) h1
  have g := G_pos (a := t) (b := b) (by omega)
  have l := Int.le_of_dvd (by omega) (G_dvd_l t b)
  refine ⟨(Int.le_ediv_iff_mul_le g).mpr (by omega), (Int.le_ediv_iff_mul_le g).mpr (by have := G_le_r (a := t) (b := b) (by omega); omega), ?_⟩
  exact a.3
theorem low_small {t b : Int} (h1 : 1 ≤ b) (hs : Bt 9000 b) : 0 < G t b ∧ Bt 9000 (G t b) := by
  have p := G_pos (a := t) (b := b) (by omega)
  exact ⟨p, hs.le (by omega) (G_le_r (by omega))⟩
theorem b9 {c : Int} (h0 : 0 ≤ c := by decide) (h : c < 18446744073709551616 := by decide) : Bt 9000 c := (bt_lt 64 h0 h).mono (by decide)
theorem e18 : (10 : Int) ^ Int.toNat 18 = 1000000000000000000 := by decide +kernel
section
variable {P : Program} {w : World} {K : PySem.W.Frag} {mg : Str → Option Value} {base : Heap}
theorem scMixed : FnScope ["_law_cell", "_law_k"] ["_law_cell", "_law_k"] (defScope sMixed) := ⟨rfl, rfl, rfl, by decide +kernel, rfl, by decide +kernel, by decide +kernel⟩
theorem ok_mixed {f : Addr} {fd : FuncData} (F : Fun K "_law_mixed" "_law_mixed" sMixed f fd) : FnOk P w K mg base CX0 1 f fd ["_law_cell", "_law_k"] spMixed := by
  refine F.ok scMixed (fun vs H Q E h => ?_) (fun cdv A outer s H vs Q E hr h => ?_)
  · obtain ⟨_, _, rfl, _⟩ := h
    rfl
  · obtain ⟨c, k, rfl, k0, k1, q⟩ := h
    refine ⟨_, pss_one (ps_ret (pe_op op_mod (pe_op op_mulB (pe_op op_add (pe_op op_add (pe_op op_mod (pv 0) pe_int) (pe_op op_mulB (pv 1) (pv 1))) pe_int) pe_int) pe_int)), ?_⟩
    have c1 := emod_in c (m := 1000003) (by decide)
    have bk1 : Bt 32 k := bt_lt 32 (c := 1001) k0 (by omega)
    have b3 : Bt 66 (c % 1000003 + k * k + 1) := ((bt_lt 64 (c := 1000003) c1.1 c1.2).add (bk1.mul bk1)).add (bt_lt 65 (x := 1) (c := 2) (by decide) (by decide))
    refine ⟨_, rfl, _, _, rfl, rfl, (by show (0 : Int) < 1000003; decide), _, rfl, _, rfl, _, _, rfl, rfl, ⟨b6 bk1, b6 bk1⟩, _, _, rfl, rfl, _, _, rfl, rfl, _, _, rfl, rfl, ⟨b6 b3, bl⟩, _, _, rfl, rfl, (by show (0 : Int) < 2147483647; decide), ?_⟩
    have e := emod_in ((c % 1000003 + k * k + 1) * 48271) (m := 2147483647) (by decide)
    exact q _ e.1 e.2
theorem scLowest : FnScope ["_law_top", "_law_bottom", "_law_one", "_law_other"] ["_law_top", "_law_bottom"] (defScope sLowest) := ⟨rfl, rfl, rfl, by decide +kernel, rfl, by decide +kernel, by decide +kernel⟩
theorem ok_lowest {f : Addr} {fd : FuncData} (F : Fun K "_law_lowest" "_law_lowest" sLowest f fd) : FnOk P w K mg base CX0 1 f fd ["_law_top", "_law_bottom"] spLowest := by
  refine F.ok scLowest (fun vs H Q E h => ?_) (fun cdv A outer s H vs Q E hr h => ?_)
  · obtain ⟨a, b, rfl, _⟩ := h
    rfl
  · obtain ⟨a, b, rfl, ha, hb, bb, k⟩ := h
    refine ⟨_, (pss_cons (ps_set (i := 2) scLowest.nd rfl (Or.inl rfl) (pv 0))
      (pss_cons (ps_set (i := 3) scLowest.nd rfl (Or.inl rfl) (pv 1))
      (pss_cons (ps_while PassesOwn.never (pt_cmpR op_gt (pv 3) pe_int (nomark _))
      (pss_one (ps_par (i := 2) (j := 3) rfl scLowest.nd rfl rfl (by decide) rfl rfl (pa_cons (pv 3) (pa_cons (pe_op op_mod (pv 2) (pv 3)) pa_nil)) rfl)))
      (pss_one (ps_ret (pe_tup (pa_cons (pe_op op_fdivB (pv 0) (pv 2)) (pa_cons (pe_op op_fdivB (pv 1) (pv 2)) pa_nil)))))))), ?_⟩
    refine ⟨_, rfl, _, rfl, ?_⟩
    refine while_by (fun σ H' => H' = H ∧ ∃ (x y : Int), σ = [some (.int a), some (.int b), some (.int x), some (.int y)] ∧ 0 ≤ x ∧ 0 ≤ y ∧ G x y = G a b) (fun σ _ => match σ with | [_, _, _, some (.int y)] => y.toNat | _ => 0) ⟨rfl, a, b, rfl, ha, by omega, rfl⟩ ?_ ?_
    · rintro σ H' ⟨rfl, x, y, rfl, hx, hy, e⟩
      refine ⟨_, rfl, _, _, rfl, rfl, _, rfl, ?_⟩
      refine ite2 (fun hc => ?_) (fun hc => ?_)
      · have hy0 : 0 < y := of_decide_eq_true hc
        have t := gcd_turn e hy (by omega)
        refine ⟨_, rfl, _, rfl, _, rfl, _, _, rfl, rfl, (by show 0 < y; omega), _, _, rfl, ⟨rfl, y, x % y, rfl, hy, t.1, t.2⟩, ?_⟩
        have := Int.emod_lt_of_pos x (show 0 < y by omega)
        have := t.1
        show (x % y).toNat < y.toNat
        omega
      · have hy0 : y = 0 := by
          have : ¬ 0 < y := fun z => hc (decide_eq_true z)
          omega
        subst hy0
        rw [G_zero hx] at e
        subst e
        have g := low_small (t := a) hb bb
        refine ⟨_, rfl, _, rfl, _, _, rfl, rfl, g, _, rfl, _, rfl, _, _, rfl, rfl, g, (by show 2 ≤ sizeLine; decide), fun p hp => ?_⟩
        exact k p _ (Same.upd hp) hp upd_same
    · rintro σ H' Q1 Q2 hq ⟨v, e, i, j, e1, e2, z, ez, q⟩
      exact ⟨v, e, i, j, e1, e2, z, ez, hq _ _ q⟩
theorem scDigit : FnScope ["_law_left", "_law_many", "_law_found"] ["_law_left", "_law_many"] (defScope sDigit) := ⟨rfl, rfl, rfl, by decide +kernel, rfl, by decide +kernel, by decide +kernel⟩
theorem ok_digit {f : Addr} {fd : FuncData} (F : Fun K "_law_digit" "_law_digit" sDigit f fd) : FnOk P w K mg base CX0 1 f fd ["_law_left", "_law_many"] spDigit := by
  refine F.ok scDigit (fun vs H Q E h => ?_) (fun cdv A outer s H vs Q E hr h => ?_)
  · obtain ⟨_, _, rfl, _⟩ := h
    rfl
  · obtain ⟨a, m, rfl, ⟨n, ha, n0⟩, m1, bm, k⟩ := h
    refine ⟨_, (pss_cons (ps_set (i := 2) scDigit.nd rfl (Or.inl rfl) (pe_op op_mod (pe_ix ix_list (pv 0) pe_int (fun _ _ => rfl)) (pv 1)))
      (pss_cons (ps_asg (pe_op op_fdivB (pe_ix ix_list (pv 0) pe_int (fun _ _ => rfl)) (pv 1)) (pg_sub (pv 0) pe_int set_list))
      (pss_one (ps_ret (pv 2))))), ?_⟩
    refine ⟨_, rfl, a, _, 0, .int n, rfl, rfl, SqL.of ha, atI_nat (j := 0) rfl, _, rfl, _, _, rfl, rfl, (by show 0 < m; omega), ?_⟩
    refine ⟨_, rfl, a, _, 0, .int n, rfl, rfl, SqL.of ha, atI_nat (j := 0) rfl, _, rfl, _, _, rfl, rfl, ⟨by omega, bm⟩, _, rfl, a, _, 0, 0, rfl, rfl, ha, rfl, ?_⟩
    have e := emod_in n (show (0 : Int) < m by omega)
    exact ⟨_, rfl, k _ _ e.1 e.2 SmB.upd ⟨_, upd_same, Int.ediv_nonneg n0 (by omega)⟩⟩
theorem scMuch : FnScope ["_law_number"] ["_law_number"] (defScope sMuch) := ⟨rfl, rfl, rfl, by decide +kernel, rfl, by decide +kernel, by decide +kernel⟩
theorem ok_much {f : Addr} {fd : FuncData} (F : Fun K "_law_much" "_law_much" sMuch f fd) (cL : Cal P w K mg base CX0 1 "_law_lowest" ["_law_top", "_law_bottom"] spLowest) : FnOk P w K mg base CX0 2 f fd ["_law_number"] spMuch := by
  refine F.ok scMuch (fun vs H Q E h => ?_) (fun cdv A outer s H vs Q E hr h => ?_)
  · obtain ⟨_, rfl, _⟩ := h
    rfl
  · obtain ⟨n, rfl, n0, nl, k⟩ := h
    refine ⟨_, (pss_cons (ps_if (pt_cmpR op_eq (pe_op op_mod (pv 0) pe_int) pe_int (nomark _))
        (pss_one (ps_ret (pe_cal cL hr rfl pass0 (pa_cons (pe_op op_add pe_int (pe_op op_mod (pe_op op_mulB (pe_op op_fdivB (pv 0) pe_int) pe_int) (pe_op op_powB pe_int pe_int))) (pa_cons (pe_op op_add pe_int (pe_op op_mod (pe_op op_fdivB (pv 0) pe_int) pe_int)) pa_nil)))))
        pss_nil)
      (pss_one (ps_ret (pe_cal cL hr rfl pass0 (pa_cons (pe_op op_add pe_int (pe_op op_mod (pe_op op_fdivB (pv 0) pe_int) pe_int)) (pa_cons (pe_op op_add pe_int (pe_op op_mod (pe_op op_fdivB (pv 0) pe_int) pe_int)) pa_nil)))))), ?_⟩
    have q0 : 0 ≤ n / 4 := Int.ediv_nonneg n0 (by decide)
    have ql : n / 4 < 2147483647 := Int.lt_of_le_of_lt (Int.ediv_le_self _ n0) nl
    have bq : Bt 64 (n / 4) := bt_lt 64 q0 (Int.lt_trans ql (by decide : (2147483647 : Int) < 2147483648))
    have e1 := emod_in (n / 4) (m := 12) (by decide)
    have e2 := emod_in (n / 48) (m := 12) (by decide)
    refine ⟨_, rfl, _, _, rfl, rfl, (by show (0 : Int) < 4; decide), rfl, _, rfl, ite2 (fun _ => ?_) (fun _ => ?_)⟩
    · refine ⟨_, rfl, _, _, rfl, rfl, ⟨by decide, b9⟩, _, _, rfl, rfl, ⟨b6 bq, bl⟩, _, _, rfl, rfl, ⟨by decide, by decide, bk⟩, _, _, rfl, rfl, ?_, _, _, rfl, rfl, _, rfl, _, _, rfl, rfl, ⟨by decide, b9⟩, _, _, rfl, rfl, (by show (0 : Int) < 12; decide), _, _, rfl, rfl, ?_⟩
      · rw [e18]
        show (0 : Int) < 1000000000000000000
        decide
      · rw [e18]
        have e3 := emod_in (n / 4 * 69621) (m := 1000000000000000000) (by decide)
        exact ⟨_, _, rfl, by omega, by omega, b9 (by omega) (by omega), fun p H' sm np hp => k _ _ p H' (low_rm (by omega) (by omega)) sm np hp⟩
    · refine ⟨_, rfl, _, _, rfl, rfl, ⟨by decide, b9⟩, _, _, rfl, rfl, (by show (0 : Int) < 12; decide), _, _, rfl, rfl, _, rfl, _, _, rfl, rfl, ⟨by decide, b9⟩, _, _, rfl, rfl, (by show (0 : Int) < 12; decide), _, _, rfl, rfl, ?_⟩
      exact ⟨_, _, rfl, by omega, by omega, b9 (by omega) (by omega), fun p H' sm np hp => k _ _ p H' (low_rm (by omega) (by omega)) sm np hp⟩
end
end K31

namespace K31
open PySem PySem.Spec PyProof.Rows L2 GM TM
def one (c : Nat) : Str := ⟨#[c]⟩
theorem cps_one (c : Nat) : cps (one c) = [c] := rfl
theorem wr_one {c : Nat} (h : 97 ≤ c ∧ c ≤ 122) : Wr (one c) := ⟨(by show 1 ≤ 1; decide), (by show 1 ≤ 8; decide), fun x hx => by
  rw [cps_one] at hx
  rw [List.mem_singleton.mp hx]
  exact h⟩
theorem one_inj {c d : Nat} (e : one c = one d) : c = d := by
  have := congrArg cps e
  rw [cps_one, cps_one] at this
  exact (List.cons.inj this).1
def spWares : Sp := fun vs H Q _ => ∃ c : Int, vs = [.int c] ∧ ∀ (ws : List Str) p H', ws.length = 6 → ws.Nodup → (∀ x ∈ ws, Wr x) → Same H H' → H p = none → H' p = some (.lst (ws.map V.str)) → Q (.ref p) H'
section
variable {P : Program} {w : World} {K : PySem.W.Frag} {mg : Str → Option Value} {base : Heap}
theorem scNames : FnScope ["_law_left", "_law_letters", "_law_found", "_law_k", "_law_word", "_law_j", "_law_tail"] ["_law_left"] (defScope sNames) := ⟨rfl, rfl, rfl, by decide +kernel, rfl, by decide +kernel, by decide +kernel⟩
theorem ok_names {f : Addr} {fd : FuncData} (F : Fun K "_law_names" "_law_names" sNames f fd) (T : Txt mg) (cD : Cal P w K mg base CX0 1 "_law_digit" ["_law_left", "_law_many"] spDigit) : FnOk P w K mg base CX0 2 f fd ["_law_left"] spNames := by
  refine F.ok scNames (fun vs H Q E h => ?_) (fun cdv A outer s H vs Q E hr h => ?_)
  · obtain ⟨_, rfl, _⟩ := h
    rfl
  · obtain ⟨a, rfl, lf, k⟩ := h
    refine ⟨_, (pss_cons (ps_set (i := 1) scNames.nd rfl (Or.inl rfl) pe_str)
      (pss_cons (ps_set (i := 2) scNames.nd rfl (Or.inl rfl) (pe_lst pa_nil))
      (pss_cons (ps_for PassesOwn.never rfl (pi_range1 rfl T.range (pa_cons pe_int pa_nil)) (pg_name (i := 3) scNames.nd rfl (Or.inl rfl))
        (pss_cons (ps_set (i := 4) scNames.nd rfl (Or.inl rfl) pe_str)
        (pss_cons (ps_for PassesOwn.never rfl (pi_range1 rfl T.range (pa_cons (pe_op op_add pe_int (pe_cal cD hr rfl pass0 (pa_cons (pv 0) (pa_cons pe_int pa_nil)))) pa_nil)) (pg_name (i := 5) scNames.nd rfl (Or.inl rfl))
          (pss_one (ps_set (i := 4) scNames.nd rfl (Or.inl rfl) (pe_op op_add_str (pv 4) (pe_ix ix_str (pv 1) (pe_cal cD hr rfl pass0 (pa_cons (pv 0) (pa_cons pe_int pa_nil))) (fun _ _ => rfl))))))
        (pss_cons (ps_for PassesOwn.never rfl (pi_str (pv 1)) (pg_name (i := 6) scNames.nd rfl (Or.inl rfl))
          (pss_one (ps_if (pt_cmpR op_in_seq (pv 4) (pv 2) rfl) (pss_one (ps_set (i := 4) scNames.nd rfl (Or.inl rfl) (pv 6))) pss_nil)))
        (pss_one (ps_expr (pe_bm PySem.F.plainAttrs_list PySem.F.slot_list_append PySem.F.type_list_append mt_append (pv 2) (pa_cons (pv 4) pa_nil))))))))
      (pss_one (ps_ret (pv 2)))))), ?_⟩
    have zL : LET.length ≤ sizeLine := by decide +kernel
    refine ⟨(by show 0 ≤ sizeLine; decide), fun p hp => ?_⟩
    have pa : p ≠ a := lf.there hp
    refine ⟨6, rfl, by decide, by decide, ?_⟩
    refine for_range (fun i σ H' => ∃ (ws : List Str) (v3 v4 v5 v6 : Option V), σ = [some (.ref a), some (.str LET), some (.ref p), v3, v4, v5, v6] ∧ ws.length = i ∧ ws.Nodup ∧ (∀ x ∈ ws, Wr x) ∧ SmB a H H' ∧ Lf H' a ∧ H' p = some (.lst (ws.map V.str)))
      ⟨[], none, none, none, none, rfl, rfl, List.nodup_nil, (fun _ h => nomatch h), SmB.refl.own hp, lf.own pa, upd_same⟩ ?_ ?_
    · rintro i σ H2 hi ⟨ws, v3, v4, v5, v6, rfl, wl, nd, wr, s2, lf2, hp2⟩
      have hi6 : i < 6 := hi
      refine ⟨_, rfl, a, 8, rfl, lf2, by decide, b9, fun e H3 e0 el s3 lf3 => ⟨_, _, rfl, rfl, 1 + e, rfl, by omega, by omega, ?_⟩⟩
      refine for_range (fun j σ H' => ∃ (x : Str) (v5 : Option V), σ = [some (.ref a), some (.str LET), some (.ref p), some (.int (0 + i)), some (.str x), v5, v6] ∧ x.length = j ∧ (∀ c ∈ cps x, 97 ≤ c ∧ c ≤ 122) ∧ SmB a H H' ∧ Lf H' a ∧ H' p = some (.lst (ws.map V.str)))
        ⟨"", v5, rfl, rfl, (fun _ h => nomatch h), s2.trans s3, lf3, s3 _ _ pa hp2⟩ ?_ ?_
      · rintro j σ H4 hj ⟨x, u5, rfl, xl, xc, s4, lf4, hp4⟩
        refine ⟨_, rfl, _, rfl, _, rfl, a, 26, rfl, lf4, by decide, b9, fun g H5 g0 gl s5 lf5 => ?_⟩
        obtain ⟨gn, rfl⟩ := Int.eq_ofNat_of_zero_le g0
        have lx : x.length ≤ 8 := by omega
        refine ⟨LET, (gn : Int), 97 + gn, rfl, rfl, zL, atI_nat (at_let (by omega)), _, _, rfl, rfl, sz1000 (by show x.length + 1 ≤ 1000; omega), ?_⟩
        refine ⟨_, _, rfl, ?_, fun c hc => ?_, s4.trans s5, lf5, s5 _ _ pa hp4⟩
        · rw [lenA, xl]
          rfl
        · rw [cps_append'] at hc
          rcases List.mem_append.mp hc with h | h
          · exact xc c h
          · have : c = 97 + gn := by simpa [cps] using h
            omega
      · rintro σ H4 ⟨x, u5, rfl, xl, xc, s4, lf4, hp4⟩
        have wx : Wr x := ⟨by omega, by omega, xc⟩
        refine ⟨_, rfl, LET, rfl, ?_⟩
        refine for_str (fun j σ H' => ∃ (y : Str) (v6 : Option V), σ = [some (.ref a), some (.str LET), some (.ref p), some (.int (0 + i)), some (.str y), u5, v6] ∧ H' = H4 ∧ Wr y ∧ (y ∉ ws ∨ j = 0 ∨ ∃ q, j = q + 1 ∧ y = one (97 + q) ∧ ∀ r, r < q → one (97 + r) ∈ ws)) ⟨x, v6, rfl, rfl, wx, .inr (.inl rfl)⟩ ?_ ?_
        · rintro j c σ H5 hc ⟨y, v6', rfl, rfl, wy, inv⟩
          have hj : j < 26 := by
            have := (Array.getElem?_eq_some_iff.mp hc).1
            exact this
          have ec : c = 97 + j := by
            have h1 := at_let hj
            have h2 : (cps LET)[j]? = some c := by simpa [cps] using hc
            rw [h1] at h2
            exact (Option.some.inj h2).symm
          subst ec
          refine ⟨_, rfl, _, rfl, p, _, rfl, .inl (SqL.of hp4), rfl, flat_strs ws, _, rfl, ite2 (fun hin => ?_) (fun hno => ?_)⟩
          · have hin' : y ∈ ws := in_strs.mp hin
            refine ⟨_, rfl, one (97 + j), _, rfl, rfl, wr_one (by omega), .inr (.inr ⟨j, rfl, rfl, fun r hr => ?_⟩)⟩
            rcases inv with h | h | ⟨q, e, ey, h⟩
            · exact absurd hin' h
            · omega
            · by_cases z : r = q
              · rw [z, ← ey]
                exact hin'
              · exact h r (by omega)
          · exact ⟨y, _, rfl, rfl, wy, .inl fun z => hno (in_strs.mpr z)⟩
        · rintro σ H5 ⟨y, v6', rfl, rfl, wy, inv⟩
          have ny : y ∉ ws := by
            rcases inv with h | h | ⟨q, e, ey, h⟩
            · exact h
            · exact absurd h (by decide)
            · exfalso
              have q25 : q = 25 := by
                have : LET.cps.size = 26 := by decide +kernel
                omega
              have := pigeon (fun r => one (97 + r)) 25 ws (fun r hr => h r (by omega)) (fun r1 r2 _ _ e => by have := one_inj e; omega)
              omega
          refine ⟨_, rfl, .inl ⟨rfl, _, SqL.of hp4⟩, _, rfl, p, _, _, rfl, rfl, hp4, small1000 (by rw [List.length_map]; omega), ?_⟩
          refine ⟨ws ++ [y], _, _, _, _, rfl, by rw [List.length_append, wl]; rfl, nodup_snoc nd ny, fun z hz => ?_, s4.own hp, lf4.own pa, by rw [List.map_append]; exact upd_same⟩
          rcases List.mem_append.mp hz with h | h
          · exact wr z h
          · rw [List.mem_singleton.mp h]
            exact wy
    · rintro σ H2 ⟨ws, v3, v4, v5, v6, rfl, wl, nd, wr, s2, lf2, hp2⟩
      exact ⟨_, rfl, k ws p H2 wl nd wr s2 hp pa hp2⟩
theorem ndW1 : (["_law_tail", "_law_word"] : List Str).Nodup := by decide +kernel
theorem ndW2 : (["_law_k", "_law_word", "_law_letters", "_law_number"] : List Str).Nodup := by decide +kernel
abbrev tails : List Str := ["", "a", "aa", "ab", "b", "ba"]
theorem cps_inj {x y : Str} (h : cps x = cps y) : x = y := by
  obtain ⟨⟨x⟩⟩ := x
  obtain ⟨⟨y⟩⟩ := y
  simp [cps] at h
  rw [h]
theorem app_inj {x y z : Str} (h : x ++ y = x ++ z) : y = z := by
  have := congrArg cps h
  rw [cps_append', cps_append'] at this
  exact cps_inj (List.append_cancel_left this)
theorem wr_app {x y : Str} (l1 : 1 ≤ x.length) (l : x.length + y.length ≤ 8) (hx : ∀ c ∈ cps x, 97 ≤ c ∧ c ≤ 122) (hy : ∀ c ∈ cps y, 97 ≤ c ∧ c ≤ 122) : Wr (x ++ y) := by
  refine ⟨by rw [lenA]; omega, by rw [lenA]; exact l, fun c hc => ?_⟩
  rw [cps_append'] at hc
  rcases List.mem_append.mp hc with h | h
  · exact hx c h
  · exact hy c h
theorem tails_ok : ∀ t ∈ tails, t.length ≤ 2 ∧ ∀ c ∈ cps t, 97 ≤ c ∧ c ≤ 122 := by decide +kernel
theorem tails_nd : tails.Nodup := by decide +kernel
theorem strs_eq {ys : List V} {ws : List Str} (hl : ys.length = ws.length) (h : ∀ (i : Nat) y b, ys[i]? = some y → ws[i]? = some b → y = .str b) : ys = ws.map V.str := by
  refine list_eq (by rw [List.length_map]; exact hl) fun i x y hx hy => ?_
  rw [List.getElem?_map] at hx
  cases e : ws[i]? with
  | none => rw [e] at hx; cases hx
  | some b =>
    rw [e] at hx
    cases hx
    exact h i y b hy e
theorem nodup_map {α β : Type} {f : α → β} : ∀ {l : List α}, (∀ x ∈ l, ∀ y ∈ l, f x = f y → x = y) → l.Nodup → (l.map f).Nodup
  | [], _, _ => List.nodup_nil
  | x :: r, h, n => by
    rw [List.nodup_cons] at n
    rw [List.map_cons, List.nodup_cons]
    refine ⟨fun z => ?_, nodup_map (fun a ha b hb => h a (List.mem_cons_of_mem _ ha) b (List.mem_cons_of_mem _ hb)) n.2⟩
    obtain ⟨y, hy, e⟩ := List.mem_map.mp z
    have := h y (List.mem_cons_of_mem _ hy) x (List.mem_cons_self ..) e
    rw [this] at hy
    exact n.1 hy
theorem scWares : FnScope ["_law_cell", "_law_letters", "_law_number", "_law_word", "_law_k"] ["_law_cell"] (defScope sWares) := ⟨rfl, rfl, rfl, by decide +kernel, rfl, by decide +kernel, by decide +kernel⟩
theorem ok_wares {f : Addr} {fd : FuncData} (F : Fun K "_law_wares" "_law_wares" sWares f fd) (T : Txt mg) (cN : Cal P w K mg base CX0 2 "_law_names" ["_law_left"] spNames) (cM : Cal P w K mg base CX0 2 "_law_mixed" ["_law_cell", "_law_k"] spMixed) : FnOk P w K mg base CX0 3 f fd ["_law_cell"] spWares := by
  refine F.ok scWares (fun vs H Q E h => ?_) (fun cdv A outer s H vs Q E hr h => ?_)
  · obtain ⟨_, rfl, _⟩ := h
    rfl
  · obtain ⟨c, rfl, k⟩ := h
    refine ⟨_, (pss_cons (ps_set (i := 1) scWares.nd rfl (Or.inr rfl) pe_str)
      (pss_cons (ps_if (pt_cmpR op_eq (pe_op op_mod (pv 0) pe_int) pe_int (nomark _))
        (pss_one (ps_ret (pe_cal cN hr rfl pass0 (pa_cons (pe_lst (pa_cons (pe_op op_fdivB (pe_callB call_abs rfl T.abs' bt_abs (pa_cons (pv 0) pa_nil)) pe_int) pa_nil)) pa_nil))))
        pss_nil)
      (pss_cons (ps_set (i := 2) scWares.nd rfl (Or.inr rfl) (pe_cal cM hr rfl pass0 (pa_cons (pv 0) (pa_cons pe_int pa_nil))))
      (pss_cons (ps_set (i := 3) scWares.nd rfl (Or.inr rfl) pe_str)
      (pss_cons (ps_for PassesOwn.never rfl (pi_range1 rfl T.range (pa_cons (pe_op op_add pe_int (pe_op op_mod (pv 2) pe_int)) pa_nil)) (pg_name (i := 4) scWares.nd rfl (Or.inl rfl))
        (pss_one (ps_set (i := 3) scWares.nd rfl (Or.inr rfl) (pe_op op_add_str (pv 3) (pe_ix ix_str (pv 1) (pe_op op_mod (pe_op op_fdivB (pe_cal cM hr rfl pass0 (pa_cons (pv 0) (pa_cons (pe_op op_add (pv 4) pe_int) pa_nil))) pe_int) pe_int) (fun _ _ => rfl))))))
      (pss_cons (ps_if (pt_cmpR op_eq (pe_op op_mod (pe_op op_fdivB (pv 2) pe_int) pe_int) pe_int (nomark _))
        (pss_one (ps_ret (pe_compC (N' := ["_law_tail", "_law_word"]) (fun σ => [none, some 3].map fun t => t.bind fun j => (σ[j]?).join) rfl rfl (by decide +kernel) (by decide +kernel)
          (hk_of (sc := defScope sWares) rfl (by decide +kernel)) (fun _ _ _ => blkN_by (sc := defScope sWares) (N := ["_law_cell", "_law_letters", "_law_number", "_law_word", "_law_k"]) [none, some 3] rfl rfl rfl rfl (by decide +kernel))
          (pi_tup (pe_tup (pa_cons pe_str (pa_cons pe_str (pa_cons pe_str (pa_cons pe_str (pa_cons pe_str (pa_cons pe_str pa_nil)))))))) (fun _ _ _ _ _ _ => pg_name (i := 0) ndW1 rfl (Or.inl rfl)) (fun _ _ _ _ _ _ => pifs_nil)
          (fun _ _ _ _ _ _ => pe_op op_add_str (pv 1) (pv 0)))))
        pss_nil)
      (pss_one (ps_ret (pe_compC (N' := ["_law_k", "_law_word", "_law_letters", "_law_number"]) (fun σ => [none, some 3, some 1, some 2].map fun t => t.bind fun j => (σ[j]?).join) rfl rfl (by decide +kernel) (by decide +kernel)
          (hk_of (sc := defScope sWares) rfl (by decide +kernel)) (fun _ _ _ => blkN_by (sc := defScope sWares) (N := ["_law_cell", "_law_letters", "_law_number", "_law_word", "_law_k"]) [none, some 3, some 1, some 2] rfl rfl rfl rfl (by decide +kernel))
          (pi_range1 rfl T.range (pa_cons pe_int pa_nil)) (fun _ _ _ _ _ _ => pg_name (i := 0) ndW2 rfl (Or.inl rfl)) (fun _ _ _ _ _ _ => pifs_nil)
          (fun _ _ _ _ _ _ => pe_op op_add_str (pv 1) (pe_ix ix_str (pv 2) (pe_op op_mod (pe_op op_add (pe_op op_fdivB (pv 3) pe_int) (pe_op op_mulB pe_int (pv 0))) pe_int) (fun _ _ => rfl)))))))))))), ?_⟩
    have zL : LET.length ≤ sizeLine := by decide +kernel
    refine ⟨_, rfl, _, _, rfl, rfl, (by show (0 : Int) < 2; decide), rfl, _, rfl, ite2 (fun _ => ?_) (fun _ => ?_)⟩
    · refine ⟨_, rfl, c, rfl, ?_⟩
      have ha : 0 ≤ (if c < 0 then -c else c) := by split <;> omega
      generalize (if c < 0 then -c else c) = n at *
      refine ⟨_, _, rfl, rfl, ⟨by decide, b9⟩, (by show 1 ≤ sizeLine; decide), fun z hz => ⟨z, rfl, ⟨_, upd_same, Int.ediv_nonneg ha (by decide)⟩, fun ws p H' wl nd wr sm hp pz hp' => ?_⟩⟩
      have hpn : H p = none := by
        cases e : H p with
        | none => rfl
        | some o =>
          have := Same.upd (o := .lst [.int (n / 2)]) hz _ _ e
          rw [hp] at this
          cases this
      exact k ws p H' wl nd wr (fun b o e => sm b o (fun q => by rw [q, hz] at e; cases e) (Same.upd hz _ _ e)) hpn hp'
    refine ⟨_, rfl, c, 0, rfl, by decide, by decide, fun n n0 nl => ?_⟩
    have e5 := emod_in n (m := 5) (by decide)
    refine ⟨_, rfl, _, _, rfl, rfl, (by show (0 : Int) < 5; decide), _, _, rfl, rfl, _, rfl, by omega, by omega, ?_⟩
    refine for_range (fun i σ H' => ∃ (x : Str) (v4 : Option V), σ = [some (.int c), some (.str LET), some (.int n), some (.str x), v4] ∧ x.length = i ∧ (∀ d ∈ cps x, 97 ≤ d ∧ d ≤ 122) ∧ H' = H) ⟨"", none, rfl, rfl, (fun _ h => nomatch h), rfl⟩ ?_ ?_
    · rintro i σ H' hi ⟨x, v4, rfl, xl, xc, rfl⟩
      refine ⟨_, rfl, _, rfl, _, rfl, _, rfl, _, _, rfl, rfl, c, _, rfl, by omega, by omega, fun m m0 ml => ?_⟩
      have e := emod_in (m / 64) (m := 26) (by decide)
      obtain ⟨gn, hg⟩ := Int.eq_ofNat_of_zero_le e.1
      refine ⟨_, _, rfl, rfl, ⟨by decide, b9⟩, _, _, rfl, rfl, (by show (0 : Int) < 26; decide), LET, _, 97 + gn, rfl, rfl, zL, (by rw [hg]; exact atI_nat (at_let (by omega))), _, _, rfl, rfl, sz1000 (by show x.length + 1 ≤ 1000; omega), ?_⟩
      refine ⟨_, _, rfl, ?_, fun d hd => ?_, rfl⟩
      · rw [lenA, xl]
        rfl
      · rw [cps_append'] at hd
        rcases List.mem_append.mp hd with h | h
        · exact xc d h
        · have : d = 97 + gn := by simpa [cps] using h
          omega
    · rintro σ H' ⟨x, v4, rfl, xl, xc, rfl⟩
      have xl1 : 1 ≤ x.length := by omega
      have xl5 : x.length ≤ 5 := by omega
      refine ⟨_, rfl, _, _, rfl, rfl, ⟨by decide, b9⟩, _, _, rfl, rfl, (by show (0 : Int) < 2; decide), rfl, _, rfl, ite2 (fun _ => ?_) (fun _ => ?_)⟩
      · refine ⟨(by show 6 ≤ sizeLine; decide), fun q hq => ⟨q, rfl, ⟨_, SqT.of upd_same⟩, fun D hD => ?_⟩⟩
        refine comp_rel (Ys.tup (xs := tails.map V.str) (SqT.of upd_same)) (fun i _ y _ => ∀ t, tails[i]? = some t → y = .str (x ++ t)) (fun _ _ _ _ _ h _ => h) hD (by decide) (fun i y H2 R hy sm hR => ?_) (fun ys H2 sm hD' yl hy => ?_)
        · rw [List.getElem?_map] at hy
          cases et : tails[i]? with
          | none => rw [et] at hy; cases hy
          | some t =>
            rw [et] at hy
            cases hy
            have := (tails_ok t (List.mem_of_getElem? et)).1
            refine ⟨(Keep.refl _).set rfl, _, rfl, _, rfl, _, _, rfl, rfl, sz1000 (by omega), hR _ _ (Same.refl _) fun t' e' => ?_⟩
            rw [et] at e'
            cases e'
            rfl
        · have ey := strs_eq (ws := tails.map fun t => x ++ t) (yl.trans (by rfl)) fun i y b h1 h2 => by
            rw [List.getElem?_map] at h2
            cases et : tails[i]? with
            | none => rw [et] at h2; cases h2
            | some t =>
              rw [et] at h2
              cases h2
              exact hy i (.str t) y (by rw [List.getElem?_map, et]; rfl) h1 t et
          subst ey
          refine k _ D H2 rfl (nodup_map (fun a _ b _ e => app_inj e) tails_nd) (fun z hz => ?_) ((Same.upd hq).trans sm) ?_ hD'
          · obtain ⟨t, ht, rfl⟩ := List.mem_map.mp hz
            have tt := tails_ok t ht
            exact wr_app xl1 (by omega) xc tt.2
          · cases e : H' D with
            | none => rfl
            | some o =>
              have h9 : upd H' q (.tup (tails.map V.str)) D = none := hD
              have := Same.upd (o := .tup (tails.map V.str)) hq _ _ e
              rw [h9] at this
              cases this
      · refine ⟨6, rfl, by decide, by decide, fun D hD => ?_⟩
        refine comp_rel (Ys.rng (lo := 0) (n := 6)) (fun i _ y _ => y = .str (x ++ one (97 + ((n / 10 + 3 * ((0 : Int) + i)) % 26).toNat))) (fun _ _ _ _ _ h _ => h) hD (by decide) (fun i y H2 R hy sm hR => ?_) (fun ys H2 sm hD' yl hy => ?_)
        · obtain ⟨hi, rfl⟩ := rngV_get hy
          have e := emod_in (n / 10 + 3 * ((0 : Int) + i)) (m := 26) (by decide)
          have bi : Bt 64 ((0 : Int) + i) := bt_lt 64 (c := 100) (by omega) (by omega)
          obtain ⟨gn, hg⟩ := Int.eq_ofNat_of_zero_le e.1
          refine ⟨(Keep.refl _).set rfl, _, rfl, _, rfl, _, rfl, _, _, rfl, rfl, ⟨by decide, b9⟩, _, rfl, _, _, rfl, rfl, ⟨bl, b6 bi⟩, _, _, rfl, rfl, _, _, rfl, rfl, (by show (0 : Int) < 26; decide), LET, _, 97 + gn, rfl, rfl, zL, (by rw [hg]; exact atI_nat (at_let (by omega))), _, _, rfl, rfl, sz1000 (by show x.length + 1 ≤ 1000; omega), hR _ _ (Same.refl _) ?_⟩
          rw [hg]
          rfl
        · have ey := strs_eq (ws := (List.range 6).map fun i => x ++ one (97 + ((n / 10 + 3 * ((0 : Int) + (i : Nat))) % 26).toNat)) (yl.trans (by rfl)) fun i y b h1 h2 => by
            rw [List.getElem?_map] at h2
            cases et : (List.range 6)[i]? with
            | none => rw [et] at h2; cases h2
            | some t =>
              rw [et] at h2
              cases h2
              have ti : i = t := by
                obtain ⟨hl, e⟩ := List.getElem?_eq_some_iff.mp et
                simpa using e
              subst ti
              obtain ⟨v, hv⟩ : ∃ v, (rngV 0 6)[i]? = some v := ⟨_, List.getElem?_eq_getElem (by rw [rngV_len]; have := (List.getElem?_eq_some_iff.mp et).1; simpa using this)⟩
              exact hy i v y hv h1
          subst ey
          refine k _ D H2 rfl (nodup_map (fun a ha b hb e => ?_) List.nodup_range) (fun z hz => ?_) sm hD hD'
          · have h1 := one_inj (app_inj e)
            have ha' := List.mem_range.mp ha
            have hb' := List.mem_range.mp hb
            omega
          · obtain ⟨t, ht, rfl⟩ := List.mem_map.mp hz
            have e := emod_in (n / 10 + 3 * ((0 : Int) + (t : Nat))) (m := 26) (by decide)
            refine wr_app xl1 (by show x.length + 1 ≤ 8; omega) xc (fun d hd => ?_)
            rw [cps_one] at hd
            rw [List.mem_singleton.mp hd]
            omega
end
end K31

namespace K31
open PySem PySem.Spec PyProof.Rows L2 GM TM
theorem sorted_pw : ∀ {ss : List Str}, sortedS ss = true → ss.Pairwise (fun a b => a.cps.toList ≤ b.cps.toList)
  | [], _ => .nil
  | x :: r, h => by
    have key : ∀ (r : List Str) (x : Str), risingS x r = true → (∀ y ∈ r, x.cps.toList ≤ y.cps.toList) ∧ r.Pairwise (fun a b => a.cps.toList ≤ b.cps.toList) := by
      intro r
      induction r with
      | nil => intro x _; exact ⟨(fun _ h => nomatch h), .nil⟩
      | cons y r ih =>
        intro x hx
        have hx' : (!ltCps y.cps.toList x.cps.toList && risingS y r) = true := hx
        simp only [Bool.and_eq_true, Bool.not_eq_true'] at hx'
        obtain ⟨h1, h2⟩ := hx'
        rw [ltCps_eq] at h1
        have le : x.cps.toList ≤ y.cps.toList := List.not_lt.mp (of_decide_eq_false h1)
        obtain ⟨i1, i2⟩ := ih y h2
        refine ⟨fun z hz => ?_, .cons i1 i2⟩
        rcases List.mem_cons.mp hz with rfl | hz
        · exact le
        · exact List.le_trans le (i1 z hz)
    obtain ⟨k1, k2⟩ := key r x h
    exact .cons k1 k2
abbrev ltS (a b : Str) : Prop := a.cps.toList < b.cps.toList
structure Six (ss : List Str) : Prop where
  l : ss.length = 6
  up : ss.Pairwise ltS
  wr : ∀ x ∈ ss, Wr x
structure Six0 (ss : List Str) : Prop where
  l : ss.length = 6
  nd : ss.Nodup
  wr : ∀ x ∈ ss, Wr x
theorem str_eq {x y : Str} (h : x.cps.toList = y.cps.toList) : x = y := by
  obtain ⟨x⟩ := x
  obtain ⟨y⟩ := y
  exact congrArg Str.mk (Array.toList_inj.mp h)
theorem Six.of {ws ss : List Str} (h : Six0 ws) (p : ss.Perm ws) (s : sortedS ss = true) : Six ss := by
  refine ⟨p.length_eq.trans h.l, ?_, fun x hx => h.wr x (p.mem_iff.mp hx)⟩
  have n : ss.Nodup := p.nodup_iff.mpr h.nd
  refine (List.pairwise_and_iff.mpr ⟨sorted_pw s, n⟩).imp fun {a b} hab => ?_
  rcases List.le_iff_lt_or_eq.mp hab.1 with q | q
  · exact q
  · exact absurd (str_eq q) hab.2
def prS (ss : List Str) (q : Nat × Nat) : Str × Str := (ss.getD q.1 "", ss.getD q.2 "")
structure Qs (qs : List (Nat × Nat)) (j k : Nat) : Prop where
  pw : qs.Pairwise fun q r => q.1 < r.1 ∨ (q.1 = r.1 ∧ q.2 < r.2)
  rg : ∀ q ∈ qs, q.1 < q.2 ∧ q.2 < 6 ∧ (q.1 < j ∨ (q.1 = j ∧ q.2 < k))
theorem Qs.add {qs : List (Nat × Nat)} {j k : Nat} (h : Qs qs j k) (jk : j < k) (k6 : k < 6) : Qs (qs ++ [(j, k)]) j (k + 1) := by
  refine ⟨List.pairwise_append.mpr ⟨h.pw, List.pairwise_singleton _ _, fun q hq r hr => ?_⟩, fun q hq => ?_⟩
  · rw [List.mem_singleton.mp hr]
    exact (h.rg q hq).2.2
  · rcases List.mem_append.mp hq with z | z
    · have := h.rg q z
      omega
    · rw [List.mem_singleton.mp z]
      exact ⟨jk, k6, .inr ⟨rfl, Nat.lt_succ_self _⟩⟩
theorem Qs.more {qs : List (Nat × Nat)} {j k : Nat} (h : Qs qs j k) : Qs qs j (k + 1) := ⟨h.pw, fun q hq => by have := h.rg q hq; omega⟩
theorem Qs.next {qs : List (Nat × Nat)} {j k m : Nat} (h : Qs qs j k) : Qs qs (j + 1) m := ⟨h.pw, fun q hq => by have := h.rg q hq; omega⟩
theorem Qs.nil : Qs [] 0 m := ⟨.nil, fun q hq => nomatch hq⟩
structure GoodPs (ps : List (Str × Str)) : Prop where
  l : ps.length ≤ 25
  r : Rising ps
  ok : ∀ p ∈ ps, Wr p.1 ∧ Wr p.2 ∧ ltS p.1 p.2
theorem Six.get {ss : List Str} (h : Six ss) {i : Nat} (hi : i < 6) : ss[i]? = some (ss.getD i "") := by
  have := List.getElem?_eq_getElem (l := ss) (i := i) (by rw [h.l]; exact hi)
  rw [this, List.getD_eq_getElem?_getD, this]
  rfl
theorem Six.lt {ss : List Str} (h : Six ss) {i k : Nat} (ik : i < k) (hk : k < 6) : ltS (ss.getD i "") (ss.getD k "") := by
  have h1 : i < ss.length := by have := h.l; omega
  have h2 : k < ss.length := by have := h.l; omega
  have := List.pairwise_iff_getElem.mp h.up i k h1 h2 ik
  rw [List.getD_eq_getElem?_getD, List.getD_eq_getElem?_getD, List.getElem?_eq_getElem h1, List.getElem?_eq_getElem h2]
  exact this
theorem Six.w {ss : List Str} (h : Six ss) {i : Nat} (hi : i < 6) : Wr (ss.getD i "") := h.wr _ (List.mem_of_getElem? (h.get hi))
theorem lt_ne {x y : Str} (h : ltS x y) : x ≠ y := fun e => by
  subst e
  exact List.lt_irrefl _ h
theorem ltP_one {a b c d : Str} (h : ltS a c) : ltP (a, b) (c, d) := by
  show HT.lexLtS [a, b] [c, d] = true
  rw [HT.lexLtS_cons, if_neg (lt_ne h)]
  exact decide_eq_true h
theorem ltP_two {a b d : Str} (h : ltS b d) : ltP (a, b) (a, d) := by
  show HT.lexLtS [a, b] [a, d] = true
  rw [HT.lexLtS_cons, if_pos rfl, HT.lexLtS_cons, if_neg (lt_ne h)]
  exact decide_eq_true h
theorem Qs.good {qs : List (Nat × Nat)} {ss : List Str} {j k : Nat} (h : Qs qs j k) (s : Six ss) (l : qs.length ≤ 25) : GoodPs (qs.map (prS ss)) := by
  refine ⟨by rw [List.length_map]; exact l, fun i p q hp hq => ?_, fun p hp => ?_⟩
  · rw [List.getElem?_map] at hp hq
    obtain ⟨x, hx, rfl⟩ := Option.map_eq_some_iff.mp hp
    obtain ⟨y, hy, rfl⟩ := Option.map_eq_some_iff.mp hq
    obtain ⟨l1, rfl⟩ := List.getElem?_eq_some_iff.mp hx
    obtain ⟨l2, rfl⟩ := List.getElem?_eq_some_iff.mp hy
    have pw := List.pairwise_iff_getElem.mp h.pw i (i + 1) l1 l2 (Nat.lt_succ_self _)
    have r1 := h.rg _ (List.getElem_mem l1)
    have r2 := h.rg _ (List.getElem_mem l2)
    rcases pw with z | ⟨z1, z2⟩
    · exact ltP_one (s.lt z (by omega))
    · show ltP (ss.getD _ "", ss.getD _ "") (ss.getD _ "", ss.getD _ "")
      rw [z1]
      exact ltP_two (s.lt z2 (by omega))
  · obtain ⟨q, hq, rfl⟩ := List.mem_map.mp hp
    have r := h.rg q hq
    exact ⟨s.w (by omega), s.w r.2.1, s.lt r.1 r.2.1⟩
def PsT (H : Hp) (us : List V) (ps : List (Str × Str)) : Prop := us.length = ps.length ∧ ∀ (i : Nat) u p, us[i]? = some u → ps[i]? = some p → ∃ q, u = .ref q ∧ H q = some (.tup [.str p.1, .str p.2])
theorem PsT.nil {H : Hp} : PsT H [] [] := ⟨rfl, fun i u p h => by simp at h⟩
theorem PsT.keep {H H' : Hp} {us : List V} {ps : List (Str × Str)} (h : PsT H us ps) (s : Tk H H') : PsT H' us ps := ⟨h.1, fun i u p hu hp => by
  obtain ⟨q, e, sq⟩ := h.2 i u p hu hp
  exact ⟨q, e, s _ _ sq⟩⟩
theorem PsT.add {H : Hp} {us : List V} {ps : List (Str × Str)} {q : Addr} {p : Str × Str} (h : PsT H us ps) (k : H q = some (.tup [.str p.1, .str p.2])) : PsT H (us ++ [.ref q]) (ps ++ [p]) := by
  refine ⟨by rw [List.length_append, List.length_append, h.1]; rfl, fun j x d hx hd => ?_⟩
  by_cases hj : j < us.length
  · rw [List.getElem?_append_left hj] at hx
    rw [List.getElem?_append_left (by rw [← h.1]; exact hj)] at hd
    exact h.2 j x d hx hd
  · rw [List.getElem?_append_right (by omega)] at hx
    rw [List.getElem?_append_right (by rw [← h.1]; omega), ← h.1] at hd
    obtain ⟨hl, e⟩ := List.getElem?_eq_some_iff.mp hx
    simp at hl
    rw [hl] at hx hd
    cases hx
    cases hd
    exact ⟨q, rfl, k⟩
theorem PsT.psl {K : PySem.W.Frag} {H : Hp} {us : List V} {ps : List (Str × Str)} (h : PsT H us ps) : PsL K H us ps := ⟨h.1, fun i u p hu hp => by
  obtain ⟨q, e, sq⟩ := h.2 i u p hu hp
  exact ⟨q, e, SqT.of sq⟩⟩
def spApart (K : PySem.W.Frag) : Sp := fun vs H Q _ => ∃ (a : Addr) (ws : List Str) (c o : Int), vs = [.ref a, .int c, .int o] ∧ SqL K H a (ws.map V.str) ∧ Six0 ws ∧ 1 ≤ o ∧
  ∀ p us ps H', Same H H' → H p = none → H' p = some (.tup us) → PsT H' us ps → GoodPs ps → Q (.ref p) H'
theorem same_own {H H' : Hp} {p : Addr} {o : HO} (s : Same H H') (n : H p = none) : Same H (upd H' p o) := fun b u e => by
  rw [upd_ne (fun z => by rw [z, n] at e; cases e)]
  exact s _ _ e
theorem same_none {H H' : Hp} {p : Addr} (s : Same H H') (n : H' p = none) : H p = none := by
  cases e : H p with
  | none => rfl
  | some o =>
    have := s _ _ e
    rw [n] at this
    cases this
theorem at_six {ss : List Str} (h : Six ss) {i : Nat} {e : Int} (hi : i < 6) (he : e = (i : Int)) : atI (ss.map V.str) e = some (.str (ss.getD i "")) := by
  rw [he]
  exact atI_nat (by rw [List.getElem?_map, h.get hi]; rfl)
section
variable {P : Program} {w : World} {K : PySem.W.Frag} {mg : Str → Option Value} {base : Heap}
theorem scApart : FnScope ["_law_wares_here", "_law_cell", "_law_often", "_law_found", "_law_some", "_law_j", "_law_k"] ["_law_wares_here", "_law_cell", "_law_often"] (defScope sApart) := ⟨rfl, rfl, rfl, by decide +kernel, rfl, by decide +kernel, by decide +kernel⟩
theorem ok_apart {f : Addr} {fd : FuncData} (F : Fun K "_law_apart" "_law_apart" sApart f fd) (T : Txt mg) (cM : Cal P w K mg base CX0 1 "_law_mixed" ["_law_cell", "_law_k"] spMixed) : FnOk P w K mg base CX0 2 f fd ["_law_wares_here", "_law_cell", "_law_often"] (spApart K) := by
  refine F.ok scApart (fun vs H Q E h => ?_) (fun cdv A outer s H vs Q E hr h => ?_)
  · obtain ⟨_, _, _, _, rfl, _⟩ := h
    rfl
  · obtain ⟨a, ws, c, o, rfl, ha, six0, o1, k⟩ := h
    refine ⟨_, (pss_cons (ps_set (i := 3) scApart.nd rfl (Or.inl rfl) (pe_lst pa_nil))
      (pss_cons (ps_set (i := 4) scApart.nd rfl (Or.inl rfl) (pe_callB call_sortS rfl T.sorted' boot_sorted (pa_cons (pv 0) pa_nil)))
      (pss_cons (ps_for PassesOwn.never rfl (pi_range1 rfl T.range (pa_cons (pe_callB call_len_seq rfl T.len PySem.boot_len (pa_cons (pv 4) pa_nil)) pa_nil)) (pg_name (i := 5) scApart.nd rfl (Or.inl rfl))
        (pss_one (ps_for PassesOwn.never rfl (pi_range2 rfl T.range (pa_cons (pe_op op_add (pv 5) pe_int) (pa_cons (pe_callB call_len_seq rfl T.len PySem.boot_len (pa_cons (pv 4) pa_nil)) pa_nil))) (pg_name (i := 6) scApart.nd rfl (Or.inl rfl))
          (pss_one (ps_if (pt_cmpR op_eq (pe_op op_mod (pe_op op_fdivB (pe_cal cM hr rfl pass0 (pa_cons (pv 1) (pa_cons (pe_op op_add (pe_op op_mulB pe_int (pv 5)) (pv 6)) pa_nil))) pe_int) (pv 2)) pe_int (nomark _))
            (pss_one (ps_expr (pe_bm PySem.F.plainAttrs_list PySem.F.slot_list_append PySem.F.type_list_append mt_append (pv 3) (pa_cons (pe_tup (pa_cons (pe_ix ix_list (pv 4) (pv 5) (fun _ _ => rfl)) (pa_cons (pe_ix ix_list (pv 4) (pv 6) (fun _ _ => rfl)) pa_nil))) pa_nil))))
            pss_nil)))))
      (pss_one (ps_ret (pe_callTy call_tuple_of rfl T.tup' bt_tuple (pa_cons (pv 3) pa_nil))))))), ?_⟩
    refine ⟨(by show 0 ≤ sizeLine; decide), fun d hd => ?_⟩
    have s1 : Same H (upd H d (.lst [])) := Same.upd hd
    refine ⟨_, rfl, a, ws, rfl, s1.seq ha, by have := six0.l; omega, fun z ss pm st hz => ?_⟩
    have six := Six.of six0 pm st
    have zd : z ≠ d := fun e => by rw [e, upd_same] at hz; cases hz
    have hz0 : H z = none := same_none s1 hz
    have l6 : ((ss.map V.str).length : Int) = 6 := by rw [List.length_map, six.l]; rfl
    refine ⟨_, rfl, z, _, rfl, .inl (SqL.of upd_same), _, rfl, by omega, by omega, ?_⟩
    rw [l6]
    refine for_range (fun i σ H' => ∃ (us : List V) (qs : List (Nat × Nat)) (v5 v6 : Option V), σ = [some (.ref a), some (.int c), some (.int o), some (.ref d), some (.ref z), v5, v6] ∧ Same H H' ∧ H' d = some (.lst us) ∧ H' z = some (.lst (ss.map V.str)) ∧ PsT H' us (qs.map (prS ss)) ∧ Qs qs i 0 ∧ qs.length ≤ 5 * min i 5)
      ⟨[], [], none, none, rfl, same_own s1 hz0, by rw [upd_ne (Ne.symm zd)]; exact upd_same, upd_same, PsT.nil, Qs.nil, by decide⟩ ?_ ?_
    · rintro j σ H2 hj ⟨us, qs, v5, v6, rfl, s2, hd2, hz2, pt, hq, ql⟩
      have hj6 : j < 6 := hj
      refine ⟨_, rfl, _, _, rfl, rfl, _, rfl, z, _, rfl, .inl (SqL.of hz2), _, _, rfl, by omega, ?_⟩
      rw [l6]
      refine for_range (fun i σ H' => ∃ (us : List V) (qs : List (Nat × Nat)) (v6 : Option V), σ = [some (.ref a), some (.int c), some (.int o), some (.ref d), some (.ref z), some (.int (0 + j)), v6] ∧ Same H H' ∧ H' d = some (.lst us) ∧ H' z = some (.lst (ss.map V.str)) ∧ PsT H' us (qs.map (prS ss)) ∧ Qs qs j (j + 1 + i) ∧ qs.length ≤ 5 * min j 5 + i)
        ⟨us, qs, v6, rfl, s2, hd2, hz2, pt, ⟨hq.pw, fun q h => by have := hq.rg q h; omega⟩, by omega⟩ ?_ ?_
      · rintro i σ H3 hi ⟨us, qs, v6, rfl, s3, hd3, hz3, pt, hq, ql⟩
        have hi6 : j + 1 + i < 6 := by omega
        have bj : Bt 64 ((0 : Int) + j) := bt_lt 64 (c := 100) (by omega) (by omega)
        refine ⟨_, rfl, _, rfl, _, _, rfl, rfl, ⟨bl, b6 bj⟩, _, rfl, _, _, rfl, rfl, c, _, rfl, by omega, by omega, fun m m0 ml => ?_⟩
        refine ⟨_, _, rfl, rfl, ⟨by decide, b9⟩, _, rfl, _, _, rfl, rfl, (by show 0 < o; omega), rfl, _, rfl, ite2 (fun _ => ?_) (fun _ => ?_)⟩
        · refine ⟨_, rfl, .inl ⟨rfl, _, SqL.of hd3⟩, _, rfl, _, rfl, z, _, _, _, rfl, rfl, SqL.of hz3, at_six six (i := j) hj6 (by omega), _, rfl, _, rfl, z, _, _, _, rfl, rfl, SqL.of hz3, at_six six (i := j + 1 + i) hi6 (by omega), (by show 2 ≤ sizeLine; decide), fun q hq' => ?_⟩
          have qd : q ≠ d := fun e => by rw [e, hd3] at hq'; cases hq'
          have qz : d ≠ z := Ne.symm zd
          have ul : us.length = qs.length := by rw [pt.1, List.length_map]
          have e1 : (upd H3 q (.tup [.str (ss.getD j ""), .str (ss.getD (j + 1 + i) "")])) d = some (.lst us) := Same.upd hq' _ _ hd3
          refine ⟨d, us, _, rfl, rfl, e1, small1000 (by omega), us ++ [.ref q], qs ++ [(j, j + 1 + i)], _, rfl, same_own (s3.trans (Same.upd hq')) hd, upd_same, ?_, ?_, hq.add (by omega) hi6, by rw [List.length_append, List.length_singleton]; omega⟩
          · rw [upd_ne zd]
            exact Same.upd hq' _ _ hz3
          · rw [List.map_append]
            refine ((pt.keep (Same.upd hq').tk).keep (Tk.lst e1)).add ?_
            rw [upd_ne qd]
            exact upd_same
        · exact ⟨us, qs, _, rfl, s3, hd3, hz3, pt, hq.more, by omega⟩
      · rintro σ H3 ⟨us, qs, v6, rfl, s3, hd3, hz3, pt, hq, ql⟩
        exact ⟨us, qs, _, _, rfl, s3, hd3, hz3, pt, hq.next, by omega⟩
    · rintro σ H2 ⟨us, qs, v5, v6, rfl, s2, hd2, hz2, pt, hq, ql⟩
      refine ⟨_, rfl, d, us, rfl, .inl ⟨SqL.of hd2, fun l hl => ?_⟩⟩
      exact k l us _ _ (s2.trans (Same.upd hl)) (same_none s2 hl) upd_same (pt.keep (Same.upd hl).tk) (hq.good six (by omega))
end
end K31

namespace K31
open PySem PySem.Spec PyProof.Rows L2 GM TM
theorem same_smb {H H1 H2 : Hp} {a : Addr} (s : Same H H1) (k : SmB a H1 H2) (n : H a = none) : Same H H2 := fun b o e => k b o (fun z => by rw [z, n] at e; cases e) (s b o e)
theorem SmB.tk {H H' : Hp} {a : Addr} (k : SmB a H H') (l : Lf H a) : Tk H H' := fun b ys e => k b _ (fun z => by
  obtain ⟨_, h, _⟩ := l
  rw [z, h] at e
  cases e) e
def RmsT (H : Hp) (us : List V) : Prop := ∀ u ∈ us, ∃ q t b, u = .ref q ∧ H q = some (.tup [.int t, .int b]) ∧ Rm t b
theorem RmsT.nil {H : Hp} : RmsT H [] := fun u h => nomatch h
theorem RmsT.keep {H H' : Hp} {us : List V} (h : RmsT H us) (s : Tk H H') : RmsT H' us := fun u hu => by
  obtain ⟨q, t, b, e, sq, r⟩ := h u hu
  exact ⟨q, t, b, e, s _ _ sq, r⟩
theorem RmsT.add {H : Hp} {us : List V} {q : Addr} {t b : Int} (h : RmsT H us) (k : H q = some (.tup [.int t, .int b])) (r : Rm t b) : RmsT H (us ++ [.ref q]) := fun u hu => by
  rcases List.mem_append.mp hu with z | z
  · exact h u z
  · rw [List.mem_singleton.mp z]
    exact ⟨q, t, b, rfl, k, r⟩
structure Bn (H : Hp) (p r q : Addr) (rs us : List V) (ps : List (Str × Str)) : Prop where
  hp : H p = some (.tup [.ref r, .ref q])
  hr : H r = some (.tup rs)
  rm : RmsT H rs
  l1 : 1 ≤ rs.length
  l16 : rs.length ≤ 16
  hq : H q = some (.tup us)
  pt : PsT H us ps
  g : GoodPs ps
theorem Bn.keep {H H' : Hp} {p r q : Addr} {rs us : List V} {ps : List (Str × Str)} (h : Bn H p r q rs us ps) (s : Same H H') : Bn H' p r q rs us ps := ⟨s _ _ h.hp, s _ _ h.hr, h.rm.keep s.tk, h.l1, h.l16, s _ _ h.hq, h.pt.keep s.tk, h.g⟩
def spBench (K : PySem.W.Frag) : Sp := fun vs H Q _ => ∃ (a : Addr) (ns : List Int) (w : Addr) (ws : List Str), vs = [.ref a, .ref w] ∧ SqL K H a (ns.map V.int) ∧ SqL K H w (ws.map V.str) ∧ Six0 ws ∧ ∀ p r q rs us ps H', Same H H' → Bn H' p r q rs us ps → Q (.ref p) H'
theorem abs_nonneg (c : Int) : 0 ≤ (if c < 0 then -c else c) := by split <;> omega
theorem G_one (t : Int) : G t 1 = 1 := by
  have h1 := G_pos (a := t) (b := 1) (by decide)
  have h2 := G_le_r (a := t) (b := 1) (by decide)
  omega
theorem rm_one {t : Int} (h : 1 ≤ t) : Rm t 1 := ⟨h, by decide, G_one t⟩
theorem pick4 {e : Int} (h0 : 0 ≤ e) (h : e < 4) : ∃ m : Int, atI [V.int 5, V.int 5, V.int 5, V.int 16] e = some (.int m) ∧ 1 ≤ m ∧ m ≤ 16 := by
  obtain ⟨n, rfl⟩ := Int.eq_ofNat_of_zero_le h0
  have : n = 0 ∨ n = 1 ∨ n = 2 ∨ n = 3 := by omega
  rcases this with rfl | rfl | rfl | rfl
  · exact ⟨5, rfl, by decide, by decide⟩
  · exact ⟨5, rfl, by decide, by decide⟩
  · exact ⟨5, rfl, by decide, by decide⟩
  · exact ⟨16, rfl, by decide, by decide⟩
section
variable {P : Program} {w : World} {K : PySem.W.Frag} {mg : Str → Option Value} {base : Heap}
theorem scFree : FnScope ["_law_script", "_law_wares_here", "_law_left", "_law_rooms", "_law_k", "_law_top", "_law_pairs", "_law_some", "_law_j"] ["_law_script", "_law_wares_here"] (defScope sFree) := ⟨rfl, rfl, rfl, by decide +kernel, rfl, by decide +kernel, by decide +kernel⟩
theorem ok_free {f : Addr} {fd : FuncData} (F : Fun K "_law_free_bench" "_law_free_bench" sFree f fd) (T : Txt mg) (cC : Cal P w K mg base CX0 1 "_law_cell_at" ["_law_script", "_law_k"] (spCell K)) (cD : Cal P w K mg base CX0 1 "_law_digit" ["_law_left", "_law_many"] spDigit) (cL : Cal P w K mg base CX0 1 "_law_lowest" ["_law_top", "_law_bottom"] spLowest) : FnOk P w K mg base CX0 2 f fd ["_law_script", "_law_wares_here"] (spBench K) := by
  refine F.ok scFree (fun vs H Q E h => ?_) (fun cdv A outer s H vs Q E hr h => ?_)
  · obtain ⟨_, _, _, _, rfl, _⟩ := h
    rfl
  · obtain ⟨a, ns, w, ws, rfl, ha, hw, six0, k⟩ := h
    refine ⟨_, (pss_cons (ps_set (i := 2) scFree.nd rfl (Or.inl rfl) (pe_lst (pa_cons (pe_callB call_abs rfl T.abs' bt_abs (pa_cons (pe_cal cC hr rfl pass0 (pa_cons (pv 0) (pa_cons pe_int pa_nil))) pa_nil)) pa_nil)))
      (pss_cons (ps_set (i := 3) scFree.nd rfl (Or.inl rfl) (pe_lst pa_nil))
      (pss_cons (ps_for PassesOwn.never rfl (pi_range1 rfl T.range (pa_cons (pe_op op_add pe_int (pe_cal cD hr rfl pass0 (pa_cons (pv 2) (pa_cons pe_int pa_nil)))) pa_nil)) (pg_name (i := 4) scFree.nd rfl (Or.inl rfl))
        (pss_cons (ps_set (i := 5) scFree.nd rfl (Or.inl rfl) (pe_op op_add pe_int (pe_cal cD hr rfl pass0 (pa_cons (pv 2) (pa_cons (pe_op op_powB pe_int pe_int) pa_nil)))))
        (pss_one (ps_expr (pe_bm PySem.F.plainAttrs_list PySem.F.slot_list_append PySem.F.type_list_append mt_append (pv 3) (pa_cons (pe_cal cL hr rfl pass0 (pa_cons (pv 5) (pa_cons (pe_op op_add pe_int (pe_cal cD hr rfl pass0 (pa_cons (pv 2) (pa_cons (pe_op op_powB pe_int pe_int) pa_nil)))) pa_nil))) pa_nil))))))
      (pss_cons (ps_set (i := 6) scFree.nd rfl (Or.inl rfl) (pe_lst pa_nil))
      (pss_cons (ps_set (i := 2) scFree.nd rfl (Or.inl rfl) (pe_lst (pa_cons (pe_callB call_abs rfl T.abs' bt_abs (pa_cons (pe_cal cC hr rfl pass0 (pa_cons (pv 0) (pa_cons pe_int pa_nil))) pa_nil)) pa_nil)))
      (pss_cons (ps_set (i := 7) scFree.nd rfl (Or.inl rfl) (pe_callB call_sortS rfl T.sorted' boot_sorted (pa_cons (pv 1) pa_nil)))
      (pss_cons (ps_for PassesOwn.never rfl (pi_range1 rfl T.range (pa_cons pe_int pa_nil)) (pg_name (i := 8) scFree.nd rfl (Or.inl rfl))
        (pss_one (ps_for PassesOwn.never rfl (pi_range2 rfl T.range (pa_cons (pe_op op_add (pv 8) pe_int) (pa_cons pe_int pa_nil))) (pg_name (i := 4) scFree.nd rfl (Or.inl rfl))
          (pss_one (ps_if (pt_cmpR op_eq (pe_cal cD hr rfl pass0 (pa_cons (pv 2) (pa_cons pe_int pa_nil))) pe_int (nomark _))
            (pss_one (ps_expr (pe_bm PySem.F.plainAttrs_list PySem.F.slot_list_append PySem.F.type_list_append mt_append (pv 6) (pa_cons (pe_tup (pa_cons (pe_ix ix_list (pv 7) (pv 8) (fun _ _ => rfl)) (pa_cons (pe_ix ix_list (pv 7) (pv 4) (fun _ _ => rfl)) pa_nil))) pa_nil))))
            pss_nil)))))
      (pss_one (ps_ret (pe_tup (pa_cons (pe_callTy call_tuple_of rfl T.tup' bt_tuple (pa_cons (pv 3) pa_nil)) (pa_cons (pe_callTy call_tuple_of rfl T.tup' bt_tuple (pa_cons (pv 6) pa_nil)) pa_nil)))))))))))), ?_⟩
    refine ⟨_, rfl, a, ns, 1, rfl, ha, by decide, fun c => ⟨c, rfl, (by show 1 ≤ sizeLine; decide), fun l hl => ?_⟩⟩
    have c0 := abs_nonneg c
    generalize (if c < 0 then -c else c) = n at *
    have s1 : Same H (upd H l (.lst [.int n])) := Same.upd hl
    refine ⟨(by show 0 ≤ sizeLine; decide), fun d hd => ?_⟩
    have dl : d ≠ l := fun e => by rw [e, upd_same] at hd; cases hd
    have hd0 : H d = none := same_none s1 hd
    have e18' : (10 : Int) ^ Int.toNat 18 = 1000000000000000000 := e18
    refine ⟨_, rfl, l, 16, rfl, ⟨n, by rw [upd_ne (Ne.symm dl)]; exact upd_same, c0⟩, by decide, b9, fun m H1 m0 ml sb lf => ⟨_, _, rfl, rfl, _, rfl, by omega, by omega, ?_⟩⟩
    have s2 : Same H H1 := same_smb (s1.trans (Same.upd hd)) sb hl
    have hd1 : H1 d = some (.lst []) := sb d _ dl upd_same
    refine for_range (fun i σ H' => ∃ (rs : List V) (v4 v5 : Option V), σ = [some (.ref a), some (.ref w), some (.ref l), some (.ref d), v4, v5, none, none, none] ∧ Same H H' ∧ Lf H' l ∧ H' d = some (.lst rs) ∧ rs.length = i ∧ RmsT H' rs)
      ⟨[], none, none, rfl, s2, lf, hd1, rfl, RmsT.nil⟩ ?_ ?_
    · rintro i σ H2 hi ⟨rs, v4, v5, rfl, s3, lf2, hd2, rl, rm⟩
      refine ⟨_, rfl, _, _, rfl, rfl, ⟨by decide, by decide, bk⟩, l, _, rfl, lf2, ?_, ?_, fun t H3 t0 tl sb3 lf3 => ⟨_, _, rfl, rfl, ?_⟩⟩
      · rw [e18']; decide
      · rw [e18']; exact b9
      have hd3 := sb3 _ _ dl hd2
      refine ⟨_, rfl, .inl ⟨rfl, _, SqL.of hd3⟩, _, rfl, _, rfl, _, _, rfl, rfl, ⟨by decide, by decide, bk⟩, l, _, rfl, lf3, ?_, ?_, fun b H4 b0 bl' sb4 lf4 => ⟨_, _, rfl, rfl, ?_⟩⟩
      · rw [e18']; decide
      · rw [e18']; exact b9
      rw [e18'] at bl'
      refine ⟨1 + t, 1 + b, rfl, by omega, by omega, b9 (by omega) (by omega), fun p H5 s5 hp5 hp5' => ?_⟩
      have hd4 := sb4 _ _ dl hd3
      have hd5 := s5 _ _ hd4
      have pd : p ≠ d := fun e => by rw [e, hd4] at hp5; cases hp5
      refine ⟨d, rs, _, rfl, rfl, hd5, small1000 (by omega), ?_⟩
      refine ⟨rs ++ [.ref p], _, _, rfl, same_own ((same_smb (same_smb s3 sb3 hl) sb4 hl).trans s5) hd0, (lf4.keep s5).own dl, upd_same, by rw [List.length_append, rl]; rfl, ?_⟩
      refine ((((rm.keep (sb3.tk lf2)).keep (sb4.tk lf3)).keep s5.tk).keep (Tk.lst hd5)).add (by rw [upd_ne pd]; exact hp5') (low_rm (by omega) (by omega))
    · rintro σ H2 ⟨rs, v4, v5, rfl, s3, lf2, hd2, rl, rm⟩
      have rl1 : 1 ≤ rs.length := by omega
      have rl16 : rs.length ≤ 16 := by omega
      refine ⟨(by show 0 ≤ sizeLine; decide), fun g hg => ?_⟩
      have hg0 : H g = none := same_none s3 hg
      have gd : g ≠ d := fun e => by rw [e, hd2] at hg; cases hg
      have s4 := s3.trans (Same.upd (o := .lst []) hg)
      refine ⟨_, rfl, a, ns, 2, rfl, s4.seq ha, by decide, fun c' => ⟨c', rfl, (by show 1 ≤ sizeLine; decide), fun l2 hl2 => ?_⟩⟩
      have c0' := abs_nonneg c'
      generalize (if c' < 0 then -c' else c') = n' at *
      have s5 := s4.trans (Same.upd (o := .lst [.int n']) hl2)
      have hl20 : H l2 = none := same_none s4 hl2
      have lg : l2 ≠ g := fun e => by rw [e, upd_same] at hl2; cases hl2
      have ld : l2 ≠ d := fun e => by rw [e, Same.upd hg _ _ hd2] at hl2; cases hl2
      refine ⟨_, rfl, w, ws, rfl, s5.seq hw, by have := six0.l; omega, fun z ss pm st hz => ?_⟩
      have six := Six.of six0 pm st
      have hz0 : H z = none := same_none s5 hz
      have zl : z ≠ l2 := fun e => by rw [e, upd_same] at hz; cases hz
      have zg : z ≠ g := fun e => by rw [e, Same.upd hl2 _ _ upd_same] at hz; cases hz
      have zd : z ≠ d := fun e => by rw [e, Same.upd hl2 _ _ (Same.upd hg _ _ hd2)] at hz; cases hz
      have s6 := s5.trans (Same.upd (o := .lst (ss.map V.str)) hz)
      refine ⟨6, rfl, by decide, by decide, ?_⟩
      refine for_range (fun i σ H' => ∃ (us : List V) (qs : List (Nat × Nat)) (v4 v8 : Option V), σ = [some (.ref a), some (.ref w), some (.ref l2), some (.ref d), v4, v5, some (.ref g), some (.ref z), v8] ∧ Same H H' ∧ Lf H' l2 ∧ H' d = some (.lst rs) ∧ RmsT H' rs ∧ H' g = some (.lst us) ∧ H' z = some (.lst (ss.map V.str)) ∧ PsT H' us (qs.map (prS ss)) ∧ Qs qs i 0 ∧ qs.length ≤ 5 * min i 5)
        ⟨[], [], _, none, rfl, s6, ⟨n', Same.upd hz _ _ upd_same, c0'⟩, Same.upd hz _ _ (Same.upd hl2 _ _ (Same.upd hg _ _ hd2)), ((rm.keep (Same.upd hg).tk).keep (Same.upd hl2).tk).keep (Same.upd hz).tk, Same.upd hz _ _ (Same.upd hl2 _ _ upd_same), upd_same, PsT.nil, Qs.nil, by decide⟩ ?_ ?_
      · rintro j σ H3 hj ⟨us, qs, v4, v8, rfl, s7, lf3, hd3, rm3, hg3, hz3, pt, hq, ql⟩
        have hj6 : j < 6 := hj
        refine ⟨_, rfl, _, _, rfl, rfl, _, _, rfl, by omega, ?_⟩
        refine for_range (fun i σ H' => ∃ (us : List V) (qs : List (Nat × Nat)) (v4 : Option V), σ = [some (.ref a), some (.ref w), some (.ref l2), some (.ref d), v4, v5, some (.ref g), some (.ref z), some (.int (0 + j))] ∧ Same H H' ∧ Lf H' l2 ∧ H' d = some (.lst rs) ∧ RmsT H' rs ∧ H' g = some (.lst us) ∧ H' z = some (.lst (ss.map V.str)) ∧ PsT H' us (qs.map (prS ss)) ∧ Qs qs j (j + 1 + i) ∧ qs.length ≤ 5 * min j 5 + i)
          ⟨us, qs, v4, rfl, s7, lf3, hd3, rm3, hg3, hz3, pt, ⟨hq.pw, fun q h => by have := hq.rg q h; omega⟩, by omega⟩ ?_ ?_
        · rintro i σ H4 hi ⟨us, qs, v4, rfl, s8, lf4, hd4, rm4, hg4, hz4, pt, hq, ql⟩
          have hi6 : j + 1 + i < 6 := by omega
          refine ⟨_, rfl, l2, 2, rfl, lf4, by decide, b9, fun m H5 m0 ml sb5 lf5 => ?_⟩
          have s9 := same_smb s8 sb5 hl20
          have hd5 := sb5 _ _ (Ne.symm ld) hd4
          have hg5 := sb5 _ _ (Ne.symm lg) hg4
          have hz5 := sb5 _ _ zl hz4
          have rm5 := rm4.keep (sb5.tk lf4)
          have pt5 := pt.keep (sb5.tk lf4)
          refine ⟨rfl, _, rfl, ite2 (fun _ => ?_) (fun _ => ?_)⟩
          · refine ⟨_, rfl, .inl ⟨rfl, _, SqL.of hg5⟩, _, rfl, _, rfl, z, _, _, _, rfl, rfl, SqL.of hz5, at_six six (i := j) hj6 (by omega), _, rfl, _, rfl, z, _, _, _, rfl, rfl, SqL.of hz5, at_six six (i := j + 1 + i) hi6 (by omega), (by show 2 ≤ sizeLine; decide), fun q hq' => ?_⟩
            have qg : q ≠ g := fun e => by rw [e, hg5] at hq'; cases hq'
            have ul : us.length = qs.length := by rw [pt.1, List.length_map]
            have e1 : (upd H5 q (.tup [.str (ss.getD j ""), .str (ss.getD (j + 1 + i) "")])) g = some (.lst us) := Same.upd hq' _ _ hg5
            refine ⟨g, us, _, rfl, rfl, e1, small1000 (by omega), us ++ [.ref q], qs ++ [(j, j + 1 + i)], _, rfl, same_own (s9.trans (Same.upd hq')) hg0, (lf5.keep (Same.upd hq')).own (Ne.symm lg), ?_, (rm5.keep (Same.upd hq').tk).keep (Tk.lst e1), upd_same, ?_, ?_, hq.add (by omega) hi6, by rw [List.length_append, List.length_singleton]; omega⟩
            · rw [upd_ne (Ne.symm gd)]
              exact Same.upd hq' _ _ hd5
            · rw [upd_ne zg]
              exact Same.upd hq' _ _ hz5
            · rw [List.map_append]
              refine ((pt5.keep (Same.upd hq').tk).keep (Tk.lst e1)).add ?_
              rw [upd_ne qg]
              exact upd_same
          · exact ⟨us, qs, _, rfl, s9, lf5, hd5, rm5, hg5, hz5, pt5, hq.more, by omega⟩
        · rintro σ H4 ⟨us, qs, v4, rfl, s8, lf4, hd4, rm4, hg4, hz4, pt, hq, ql⟩
          exact ⟨us, qs, _, _, rfl, s8, lf4, hd4, rm4, hg4, hz4, pt, hq.next, by omega⟩
      · rintro σ H3 ⟨us, qs, v4, v8, rfl, s7, lf3, hd3, rm3, hg3, hz3, pt, hq, ql⟩
        refine ⟨_, rfl, d, rs, rfl, .inl ⟨SqL.of hd3, fun r hr' => ?_⟩⟩
        have t1 := Same.upd (o := .tup rs) hr'
        refine ⟨_, rfl, g, us, rfl, .inl ⟨SqL.of (t1 _ _ hg3), fun q hq' => ⟨(by show 2 ≤ sizeLine; decide), fun p hp => ?_⟩⟩⟩
        have t2 := Same.upd (o := .tup us) hq'
        have t3 := Same.upd (o := .tup [.ref r, .ref q]) hp
        refine k p r q rs us _ _ (((s7.trans t1).trans t2).trans t3) ⟨upd_same, t3 _ _ (t2 _ _ upd_same), ((rm3.keep t1.tk).keep t2.tk).keep t3.tk, rl1, rl16, t3 _ _ upd_same, ((pt.keep t1.tk).keep t2.tk).keep t3.tk, hq.good six (by omega)⟩
end
end K31

namespace K31
open PySem PySem.Spec PyProof.Rows L2 GM TM
theorem pick_room {H : Hp} {q1 q2 q3 : Addr} {t1 t2 t3 b3 e : Int} (h0 : 0 ≤ e) (h : e < 3) (h1 : H q1 = some (.tup [.int t1, .int 1])) (r1 : Rm t1 1) (h2 : H q2 = some (.tup [.int t2, .int 1])) (r2 : Rm t2 1) (h3 : H q3 = some (.tup [.int t3, .int b3])) (r3 : Rm t3 b3) :
    ∃ q t b, atI [V.ref q1, V.ref q2, V.ref q3] e = some (.ref q) ∧ H q = some (.tup [.int t, .int b]) ∧ Rm t b := by
  obtain ⟨n, rfl⟩ := Int.eq_ofNat_of_zero_le h0
  have : n = 0 ∨ n = 1 ∨ n = 2 := by omega
  rcases this with rfl | rfl | rfl
  · exact ⟨q1, _, _, rfl, h1, r1⟩
  · exact ⟨q2, _, _, rfl, h2, r2⟩
  · exact ⟨q3, _, _, rfl, h3, r3⟩
section
variable {P : Program} {w : World} {K : PySem.W.Frag} {mg : Str → Option Value} {base : Heap}
theorem scBench : FnScope ["_law_script", "_law_wares_here", "_law_number", "_law_many", "_law_rooms", "_law_k", "_law_drawn"] ["_law_script", "_law_wares_here"] (defScope sBench) := ⟨rfl, rfl, rfl, by decide +kernel, rfl, by decide +kernel, by decide +kernel⟩
theorem ok_bench {f : Addr} {fd : FuncData} (F : Fun K "_law_bench" "_law_bench" sBench f fd) (T : Txt mg) (cC : Cal P w K mg base CX0 2 "_law_cell_at" ["_law_script", "_law_k"] (spCell K)) (cF : Cal P w K mg base CX0 2 "_law_free_bench" ["_law_script", "_law_wares_here"] (spBench K)) (cM : Cal P w K mg base CX0 2 "_law_mixed" ["_law_cell", "_law_k"] spMixed) (cU : Cal P w K mg base CX0 2 "_law_much" ["_law_number"] spMuch) (cA : Cal P w K mg base CX0 2 "_law_apart" ["_law_wares_here", "_law_cell", "_law_often"] (spApart K)) : FnOk P w K mg base CX0 3 f fd ["_law_script", "_law_wares_here"] (spBench K) := by
  refine F.ok scBench (fun vs H Q E h => ?_) (fun cdv A outer s H vs Q E hr h => ?_)
  · obtain ⟨_, _, _, _, rfl, _⟩ := h
    rfl
  · obtain ⟨a, ns, w, ws, rfl, ha, hw, six0, k⟩ := h
    refine ⟨_, (pss_cons (ps_if (pt_cmpR op_eq (pe_op op_mod (pe_cal cC hr rfl pass0 (pa_cons (pv 0) (pa_cons pe_int pa_nil))) pe_int) pe_int (nomark _))
        (pss_one (ps_ret (pe_cal cF hr rfl pass0 (pa_cons (pv 0) (pa_cons (pv 1) pa_nil)))))
        pss_nil)
      (pss_cons (ps_set (i := 2) scBench.nd rfl (Or.inl rfl) (pe_cal cM hr rfl pass0 (pa_cons (pe_cal cC hr rfl pass0 (pa_cons (pv 0) (pa_cons pe_int pa_nil))) (pa_cons pe_int pa_nil))))
      (pss_cons (ps_set (i := 3) scBench.nd rfl (Or.inl rfl) (pe_op op_add pe_int (pe_op op_mod (pv 2) (pe_ix ix_list (pe_lst (pa_cons pe_int (pa_cons pe_int (pa_cons pe_int (pa_cons pe_int pa_nil))))) (pe_op op_mod (pe_op op_fdivB (pv 2) pe_int) pe_int) (fun _ _ => rfl)))))
      (pss_cons (ps_set (i := 4) scBench.nd rfl (Or.inl rfl) (pe_lst pa_nil))
      (pss_cons (ps_for PassesOwn.never rfl (pi_range1 rfl T.range (pa_cons (pv 3) pa_nil)) (pg_name (i := 5) scBench.nd rfl (Or.inl rfl))
        (pss_cons (ps_set (i := 6) scBench.nd rfl (Or.inl rfl) (pe_cal cM hr rfl pass0 (pa_cons (pe_cal cC hr rfl pass0 (pa_cons (pv 0) (pa_cons pe_int pa_nil))) (pa_cons (pe_op op_add (pv 5) pe_int) pa_nil))))
        (pss_one (ps_expr (pe_bm PySem.F.plainAttrs_list PySem.F.slot_list_append PySem.F.type_list_append mt_append (pv 4) (pa_cons (pe_ix ix_list (pe_lst (pa_cons (pe_tup (pa_cons (pe_op op_add pe_int (pe_op op_mod (pe_op op_fdivB (pv 6) pe_int) pe_int)) (pa_cons pe_int pa_nil))) (pa_cons (pe_tup (pa_cons (pe_op op_powB pe_int pe_int) (pa_cons pe_int pa_nil))) (pa_cons (pe_cal cU hr rfl pass0 (pa_cons (pe_op op_fdivB (pv 6) pe_int) pa_nil)) pa_nil)))) (pe_op op_mod (pv 6) pe_int) (fun _ _ => rfl)) pa_nil))))))
      (pss_one (ps_ret (pe_tup (pa_cons (pe_callTy call_tuple_of rfl T.tup' bt_tuple (pa_cons (pv 4) pa_nil)) (pa_cons (pe_cal cA hr rfl pass0 (pa_cons (pv 1) (pa_cons (pe_cal cC hr rfl pass0 (pa_cons (pv 0) (pa_cons pe_int pa_nil))) (pa_cons (pe_op op_add pe_int (pe_op op_mod (pe_op op_fdivB (pv 2) pe_int) pe_int)) pa_nil)))) pa_nil)))))))))), ?_⟩
    refine ⟨_, rfl, a, ns, 0, rfl, ha, by decide, fun c => ⟨_, _, rfl, rfl, (by show (0 : Int) < 2; decide), rfl, _, rfl, ite2 (fun _ => ?_) (fun _ => ?_)⟩⟩
    · exact ⟨_, rfl, _, rfl, a, ns, w, ws, rfl, ha, hw, six0, k⟩
    refine ⟨_, rfl, a, ns, 1, rfl, ha, by decide, fun c1 => ⟨c1, 1, rfl, by decide, by decide, fun n n0 nl => ?_⟩⟩
    have e4 := emod_in (n / 16) (m := 4) (by decide)
    obtain ⟨m, hm, m1, m16⟩ := pick4 e4.1 e4.2
    have em := emod_in n (m := m) (by omega)
    refine ⟨_, rfl, (by show 4 ≤ sizeLine; decide), fun z hz => ⟨_, rfl, _, _, rfl, rfl, ⟨by decide, b9⟩, _, _, rfl, rfl, (by show (0 : Int) < 4; decide), z, _, _, _, rfl, rfl, SqL.of upd_same, hm, _, _, rfl, rfl, (by show 0 < m; omega), _, _, rfl, rfl, ?_⟩⟩
    have s1 : Same H (upd H z (.lst [.int 5, .int 5, .int 5, .int 16])) := Same.upd hz
    refine ⟨(by show 0 ≤ sizeLine; decide), fun d hd => ?_⟩
    have hd0 : H d = none := same_none s1 hd
    have s2 := s1.trans (Same.upd (o := .lst []) hd)
    refine ⟨_, rfl, _, rfl, by omega, by omega, ?_⟩
    refine for_range (fun i σ H' => ∃ (rs : List V) (v5 v6 : Option V), σ = [some (.ref a), some (.ref w), some (.int n), some (.int (1 + n % m)), some (.ref d), v5, v6] ∧ Same H H' ∧ H' d = some (.lst rs) ∧ rs.length = i ∧ RmsT H' rs)
      ⟨[], none, none, rfl, s2, upd_same, rfl, RmsT.nil⟩ ?_ ?_
    · rintro i σ H2 hi ⟨rs, v5, v6, rfl, s3, hd2, rl, rm⟩
      refine ⟨_, rfl, a, ns, 1, rfl, s3.seq ha, by decide, fun c2 => ⟨_, rfl, _, _, rfl, rfl, c2, _, rfl, by omega, by omega, fun g g0 gl => ?_⟩⟩
      have e40 := emod_in (g / 8) (m := 40) (by decide)
      have e3 := emod_in g (m := 3) (by decide)
      have g8 : 0 ≤ g / 8 := Int.ediv_nonneg g0 (by decide)
      have g8l : g / 8 < 2147483647 := Int.lt_of_le_of_lt (Int.ediv_le_self _ g0) gl
      refine ⟨_, rfl, .inl ⟨rfl, _, SqL.of hd2⟩, _, rfl, _, _, rfl, rfl, ⟨by decide, b9⟩, _, _, rfl, rfl, (by show (0 : Int) < 40; decide), _, _, rfl, rfl, (by show 2 ≤ sizeLine; decide), fun q1 h1 => ?_⟩
      have t1 := Same.upd (o := .tup [.int (1 + g / 8 % 40), .int 1]) h1
      refine ⟨_, _, rfl, rfl, ⟨by decide, by decide, bk⟩, (by show 2 ≤ sizeLine; decide), fun q2 h2 => ?_⟩
      have t2 := Same.upd (o := .tup [.int ((10 : Int) ^ Int.toNat 18), .int 1]) h2
      refine ⟨_, rfl, _, _, rfl, rfl, ⟨by decide, b9⟩, g / 8, rfl, g8, g8l, fun t b q3 H3 r3 t3 h3 h3' => ⟨(by show 3 ≤ sizeLine; decide), fun y hy => ?_⟩⟩
      have t4 := Same.upd (o := .lst [.ref q1, .ref q2, .ref q3]) hy
      have tt := ((t1.trans t2).trans t3).trans t4
      obtain ⟨q, t', b', hq, hq', rq⟩ := pick_room e3.1 e3.2 (t4 _ _ (t3 _ _ (t2 _ _ upd_same))) (rm_one (by omega)) (t4 _ _ (t3 _ _ upd_same)) (rm_one (by rw [e18]; decide)) (t4 _ _ h3') r3
      have hd3 := tt _ _ hd2
      have qd : q ≠ d := fun e => by rw [e, hd3] at hq'; cases hq'
      refine ⟨_, rfl, _, _, rfl, rfl, (by show (0 : Int) < 3; decide), y, _, _, _, rfl, rfl, SqL.of upd_same, hq, d, rs, _, rfl, rfl, hd3, small1000 (by omega), ?_⟩
      exact ⟨rs ++ [.ref q], _, _, rfl, same_own (s3.trans tt) hd0, upd_same, by rw [List.length_append, rl]; rfl, ((rm.keep tt.tk).keep (Tk.lst hd3)).add (by rw [upd_ne qd]; exact hq') rq⟩
    · rintro σ H2 ⟨rs, v5, v6, rfl, s3, hd2, rl, rm⟩
      have e60 := emod_in (n / 64) (m := 60) (by decide)
      refine ⟨_, rfl, d, rs, rfl, .inl ⟨SqL.of hd2, fun r hr' => ?_⟩⟩
      have t1 := Same.upd (o := .tup rs) hr'
      refine ⟨_, rfl, _, rfl, a, ns, 2, rfl, (s3.trans t1).seq ha, by decide, fun c3 => ⟨_, rfl, _, _, rfl, rfl, ⟨by decide, b9⟩, _, _, rfl, rfl, (by show (0 : Int) < 60; decide), _, _, rfl, rfl, ?_⟩⟩
      refine ⟨w, ws, c3, _, rfl, (s3.trans t1).seq hw, six0, by omega, fun q us ps H3 t2 hq0 hq pt g => ⟨(by show 2 ≤ sizeLine; decide), fun p hp => ?_⟩⟩
      have t3 := Same.upd (o := .tup [.ref r, .ref q]) hp
      exact k p r q rs us ps _ (((s3.trans t1).trans t2).trans t3) ⟨upd_same, t3 _ _ (t2 _ _ upd_same), ((rm.keep t1.tk).keep t2.tk).keep t3.tk, by omega, by omega, t3 _ _ hq, pt.keep t3.tk, g⟩
end
end K31

namespace HT
open PySem PySem.Spec PyProof.Rows
theorem tuple_mulW (l : Addr) (items : Array Value) (n : Nat) (dd : Option Addr) (sl : Array (Option Value)) (x : Int) (u : Tok) (h0 : ¬ (decide (x < -(2 ^ 63)) || decide (x ≥ 2 ^ 63)) = true) (h1 : ¬ (items.isEmpty || x == 1) = true) (h2 : ¬ (decide (x ≤ 0) || items.isEmpty) = true)
    (h3 : ¬ (items.size : Int) * x > (2 ^ 63 - 1) / 8) (h4 : ¬ Builtin.Tuple.tupleTooMany ((items.size : Int) * x) = true) (hsz : ((List.replicate x.toNat items).foldl (· ++ ·) #[]).size ≤ sizeLine) :
    Meets (Builtin.«tuple.__mul__» ⟨[.ref l, .int x u], []⟩) (fun _ R s => s.heap.get? l = some { cls := .type "tuple", dict := dd, data := .seq items n, slots := sl } ∧ R (.ok (.ret (Value.ref s.heap.objs.size))) { s with heap := s.heap.push { cls := Value.type "tuple", data := Data.seq ((List.replicate x.toNat items).foldl (· ++ ·) #[]) }, toks := s.toks }) :=
  .of_wp fun prog w A R s h => by
    obtain ⟨hp, g, d, tk, os⟩ := s; obtain ⟨hl, h⟩ := h; have f1 := AutoSeq1.idx_int; have f2 := AutoSeq1.sub_tuple_tuple; have f3 := AutoSeq1.sub_list_list; have f4 := AutoSeq1.sub_tuple_list; have f5 := AutoSeq1.sub_list_tuple
    wp_walk using wpAny_loadPart' hl
    refine wpAny_ite_false (decide_eq_false h0) ?_
    wp_walk using wpAny_loadPart' hl
    refine wpAny_ite_false (decide_eq_false h3) ?_
    wp_walk using wpAny_loadPart' hl
    exact ⟨_, rfl, h⟩
theorem int_rmul_tuple (a : Int) (t : Tok) (l : Addr) (items : Array Value) (n : Nat) (dd : Option Addr) (sl : Array (Option Value)) :
    Meets (Builtin.«int.__rmul__» ⟨[.int a t, .ref l], []⟩) (fun _ R s => s.heap.get? l = some { cls := .type "tuple", dict := dd, data := .seq items n, slots := sl } ∧ R (.ok (.ret Value.notImplemented)) s) :=
  .of_wp fun prog w A R s h => by obtain ⟨hp, g, d, tk, os⟩ := s; obtain ⟨hl, h⟩ := h; wp_walk; exact ⟨_, rfl, h⟩
theorem noFill_tuple_mul : fillsNumberSlot (.type "tuple") "mul" = pure false :=
  PySem.fillsNumberSlot_seq (id := "tuple.__mul__") (r := some (.builtin "tuple.__rmul__")) PySem.F.slot_tuple_mul.lookup (by decide +kernel) PySem.F.slot_tuple_rmul.lookup (by decide +kernel)
theorem repeat_tuple : seqRepeat? (.type "tuple") = pure (some (.builtin "tuple.__mul__")) := by
  unfold seqRepeat?
  rw [PySem.seqSlot_of (T := "tuple") (name := "__mul__") (id := "tuple.__mul__") PySem.F.slot_tuple_mul.lookup (by decide +kernel), PySem.seqSlot_of (T := "tuple") (name := "__rmul__") (id := "tuple.__rmul__") PySem.F.slot_tuple_rmul.lookup (by decide +kernel)]
  rfl
section
variable {prog : Program} {w : World} {A : Around} {E : Value → Shared → Prop} {s : Shared}
/-- () + u is u -/
theorem cat_tup0 {t b : Addr} {ws : List Value} {Q : Value → Shared → Prop} (ht : IsTup s.heap t #[]) (hb : IsTup s.heap b ws.toArray) (h : Q (.ref b) s) : wpAny (model prog w) A (binaryOp .Add (.ref t) (.ref b)) Q E s := by
  obtain ⟨⟨cls, dd, data, sl⟩, ho, hc, n, hd⟩ := id ht
  obtain ⟨⟨cls2, dd2, data2, sl2⟩, ho2, hc2, n2, hd2⟩ := id hb
  simp only at hc hd hc2 hd2
  subst hc hd hc2 hd2
  exact concat_meets ⟨_, ho, rfl⟩ ⟨_, ho2, rfl⟩ noFill_tuple_add seq_tuple_add PySem.F.slot_tuple_add PySem.F.entry_tuple_add (PySem.F.args_tuple_add_2 _ _)
      (tuple_addW0 t b #[] ws.toArray n n2 dd dd2 sl sl2 (by simp)) ⟨ho, ho2, h⟩
theorem rep_tup {t : Addr} {vs : List Value} {x : Int} {u : Tok} {Q : Value → Shared → Prop} (ht : IsTup s.heap t vs.toArray) (hv : vs ≠ []) (h1 : 2 ≤ x) (h2 : x ≤ 1000) (h3 : vs.length ≤ 1000)
    (h : Q (.ref s.heap.objs.size) { s with heap := s.heap.push { cls := .type "tuple", data := .seq (List.replicate x.toNat vs).flatten.toArray } }) : wpAny (model prog w) A (binaryOp .Mult (.ref t) (.int x u)) Q E s := by
  obtain ⟨⟨cls, dd, data, sl⟩, ho, hc, n, hd⟩ := id ht
  simp only at hc hd
  subst hc hd
  have e : List.foldl (fun x1 x2 => x1 ++ x2) #[] (List.replicate x.toNat vs.toArray) = (List.replicate x.toNat vs).flatten.toArray := by
    have := L2.foldl_rep vs x.toNat []
    rw [List.nil_append] at this
    exact this
  have ez : vs.toArray.isEmpty = false := by simpa using hv
  have mb : (vs.toArray.size : Int) * x ≤ 1000000 := by
    rw [List.size_toArray]
    have := Int.mul_le_mul (show (vs.length : Int) ≤ 1000 by omega) h2 (by omega) (by decide : (0 : Int) ≤ 1000)
    omega
  have sl9 : (sizeLine : Int) ≥ 1000000 := by decide
  refine wpAny_binaryOp_repeat_ref (T := "tuple") (U := "int") (by decide) ⟨_, ho, rfl⟩ (fun s' => typeIs_int s' x u) noFill_tuple_mul PySem.F.fills_int_mul PySem.F.slot_int_rmul repeat_tuple PySem.F.slot_int_index.lookup
    (call_meets PySem.F.slot_int_rmul (typeIs_int s x u) PySem.F.entry_int_rmul (PySem.F.args_int_rmul_2 _ _) (int_rmul_tuple x u t vs.toArray n dd sl)
      ⟨ho, rfl, ⟨_, ho, rfl⟩, call_meets PySem.F.slot_tuple_mul ⟨_, ho, rfl⟩ PySem.F.entry_tuple_mul (PySem.F.args_tuple_mul_2 _ _) (tuple_mulW t vs.toArray n dd sl x u ?_ ?_ ?_ ?_ ?_ ?_) ⟨ho, ?_⟩⟩)
  · simp
    omega
  · rw [ez]
    simp
    omega
  · rw [ez]
    simp
    omega
  · omega
  · unfold Builtin.Tuple.tupleTooMany
    rw [decide_eq_false (by omega)]
    decide
  · rw [e, List.size_toArray, L2.len_rep]
    have : (x.toNat : Int) = x := by omega
    have h9 : ((x.toNat * vs.length : Nat) : Int) ≤ 1000000 := by
      rw [List.size_toArray] at mb
      push_cast
      rw [this, Int.mul_comm]
      exact mb
    have : sizeLine ≥ 1000000 := by decide
    omega
  · rw [e]
    exact h
end
end HT
namespace L2
open PySem PySem.Spec PyProof.Rows
section
variable {X : Cx}
/-- () + u -/
def rCatT0 (K : PySem.W.Frag) : R2 := fun x y H Q => ∃ a b ys, x = .ref a ∧ y = .ref b ∧ SqT K H a [] ∧ SqT K H b ys ∧ Q (.ref b) H
theorem op_catT0 : OpR X (binaryOp .Add) (rCatT0 X.K) := by
  intro pins s σ H x y v u Q I rx ry h
  obtain ⟨a, b, ys, rfl, rfl, ha, hb, q⟩ := h
  cases rx
  cases ry
  obtain ⟨its, r1, p1, _⟩ := I.tuple ha
  obtain ⟨its2, r2, p2, _⟩ := I.tuple hb
  cases r1
  exact HT.cat_tup0 p1 p2 ⟨.ref b, H, I, rfl, q⟩
/-- t + u, whatever t is -/
def rCatTA (K : PySem.W.Frag) : R2 := fun x y H Q => rCatT0 K x y H Q ∨ rCatT K x y H Q
theorem op_catTA : OpR X (binaryOp .Add) (rCatTA X.K) := by
  intro pins s σ H x y v u Q I rx ry h
  rcases h with h | h
  · exact op_catT0 pins s σ H x y v u Q I rx ry h
  · exact op_catT pins s σ H x y v u Q I rx ry h
/-- t * k, t not empty, k from 2 on -/
def rRepT (K : PySem.W.Frag) : R2 := fun x y H Q => ∃ a k xs, x = .ref a ∧ y = .int k ∧ SqT K H a xs ∧ xs ≠ [] ∧ 2 ≤ k ∧ k ≤ 1000 ∧ xs.length ≤ 1000 ∧ ∀ p, H p = none → Q (.ref p) (upd H p (.tup (List.replicate k.toNat xs).flatten))
theorem op_repT : OpR X (binaryOp .Mult) (rRepT X.K) := by
  intro pins s σ H x y v u Q I rx ry h
  obtain ⟨a, k, xs, rfl, rfl, ha, hx, k2, kl, xl, q⟩ := h
  cases rx
  obtain ⟨t, rfl⟩ := ry
  obtain ⟨its, r1, p1, _⟩ := I.tuple ha
  refine HT.rep_tup p1 (fun z => hx (r1.nil_iff.mp z)) k2 kl (by rw [← r1.length]; exact xl) ?_
  refine ⟨.ref s.heap.objs.size, _, I.laid (t' := s.toks) (o := .tup (List.replicate k.toNat xs).flatten) (fun b ob q => Heap.get?_push_of_some _ q) (Nat.le_refl _) ?_, rfl, q _ (I.hok.fresh (Nat.le_refl _))⟩
  refine ⟨?_, _, r1.rep k.toNat, IsTup.new _ _⟩
  rw [len_rep]
  have h9 : k.toNat * xs.length ≤ 1000 * 1000 := Nat.mul_le_mul (by omega) xl
  have : sizeLine ≥ 1000000 := by decide
  omega
end
end L2

namespace K31
open PySem PySem.Spec PyProof.Rows L2 GM TM
theorem bt_list : bootBuiltins "list" = some (.type "list") := by decide +kernel
theorem RmsT.each {K : PySem.W.Frag} {H : Hp} : ∀ {us : List V}, RmsT H us → Each (RmV K H) us (List.replicate us.length true)
  | [], _ => Each.nil
  | u :: r, h => by
    obtain ⟨q, t, b, rfl, sq, rm⟩ := h u (List.mem_cons_self ..)
    exact Each.cons (.yes (SqT.of sq) rm.t1 rm.b1 rm.g) (RmsT.each fun x hx => h x (List.mem_cons_of_mem _ hx))
theorem all_rep (n : Nat) : (List.replicate n true).all id = true := by
  rw [List.all_eq_true]
  intro x hx
  rw [List.eq_of_mem_replicate hx]
  rfl
theorem RmsT.cut {H : Hp} {us : List V} (h : RmsT H us) (n : Nat) : RmsT H (us.take n) := fun u hu => h u (List.mem_of_mem_take hu)
theorem am_false {K : PySem.W.Frag} {H : Hp} {a : Addr} {t b : Int} (h : SqT K H a [.int t, .int b]) (n : t < 0 ∨ G t b ≠ 1) : RmV K H (.ref a) false := by
  have e := AmV.two h
  have z : (decide (0 ≤ t) && (decide (1 ≤ b) && decide (G t b = 1))) = false := by
    rcases n with n | n
    · rw [decide_eq_false (show ¬ 0 ≤ t by omega)]
      rfl
    · rw [decide_eq_false n]
      simp
  rw [z] at e
  exact .am e
theorem g_two (f : Int) : G (2 + 2 * f) 2 ≠ 1 := fun e => by
  have : (2 : Int) ∣ G (2 + 2 * f) 2 := Int.dvd_coe_gcd ⟨1 + f, by omega⟩ ⟨1, rfl⟩
  rw [e] at this
  omega
theorem pick7 {P : V → Prop} {x0 x1 x2 x3 x4 x5 x6 : V} (h0 : P x0) (h1 : P x1) (h2 : P x2) (h3 : P x3) (h4 : P x4) (h5 : P x5) (h6 : P x6) {e : Int} (e0 : 0 ≤ e) (e7 : e < 7) : ∃ x, atI [x0, x1, x2, x3, x4, x5, x6] e = some x ∧ P x := by
  obtain ⟨n, rfl⟩ := Int.eq_ofNat_of_zero_le e0
  have : n = 0 ∨ n = 1 ∨ n = 2 ∨ n = 3 ∨ n = 4 ∨ n = 5 ∨ n = 6 := by omega
  rcases this with rfl | rfl | rfl | rfl | rfl | rfl | rfl
  · exact ⟨_, rfl, h0⟩
  · exact ⟨_, rfl, h1⟩
  · exact ⟨_, rfl, h2⟩
  · exact ⟨_, rfl, h3⟩
  · exact ⟨_, rfl, h4⟩
  · exact ⟨_, rfl, h5⟩
  · exact ⟨_, rfl, h6⟩
theorem cut_last {xs : List V} (h : 1 ≤ xs.length) : cutV xs none (some (-1)) = xs.take (xs.length - 1) ∧ ¬ (HT.sIx xs.length 0 none = 0 ∧ HT.sIx xs.length xs.length (some (-1)) = xs.length) := by
  have e : HT.sIx xs.length xs.length (some (-1)) = xs.length - 1 := by
    show (if (-1 : Int) < 0 then ((-1 : Int) + (xs.length : Int)).toNat else min (-1 : Int).toNat xs.length) = _
    rw [if_pos (by decide)]
    omega
  refine ⟨?_, fun z => ?_⟩
  · unfold cutV
    rw [e]
    rfl
  · rw [e] at z
    omega
theorem rooms_bad {K : PySem.W.Frag} {H : Hp} {a : Addr} {us : List V} {u : V} (h : SqT K H a (us ++ [u])) (l : us.length ≤ 15) (r : RmsT H us) (k : RmV K H u false) : RoomsV K H (.ref a) false := by
  have e := RoomsV.sq h (by rw [List.length_append, List.length_singleton]; omega) (by rw [List.length_append, List.length_singleton]; omega) (r.each.append (Each.cons k Each.nil))
  have z : (List.replicate us.length true ++ [false]).all id = false := by
    rw [List.all_append]
    simp
  rw [z] at e
  exact e
def spRsp (K : PySem.W.Frag) : Sp := fun vs H Q _ => ∃ (r : Addr) (rs : List V) (w f : Int), vs = [.ref r, .int w, .int f] ∧ H r = some (.tup rs) ∧ RmsT H rs ∧ 1 ≤ rs.length ∧ rs.length ≤ 16 ∧ 0 ≤ w ∧ w ≤ 9 ∧ 0 ≤ f ∧ Bt 1000 f ∧ ∀ v H', Same H H' → RoomsV K H' v false → Q v H'
section
variable {P : Program} {w : World} {K : PySem.W.Frag} {mg : Str → Option Value} {base : Heap}
theorem scRsp : FnScope ["_law_rooms", "_law_way", "_law_far", "_law_some"] ["_law_rooms", "_law_way", "_law_far"] (defScope sRsp) := ⟨rfl, rfl, rfl, by decide +kernel, rfl, by decide +kernel, by decide +kernel⟩
theorem ok_rsp {f : Addr} {fd : FuncData} (F : Fun K "_law_rooms_spoiled" "_law_rooms_spoiled" sRsp f fd) (T : Txt mg) : FnOk P w K mg base CX0 1 f fd ["_law_rooms", "_law_way", "_law_far"] (spRsp K) := by
  refine F.ok scRsp (fun vs H Q E h => ?_) (fun cdv A outer s H vs Q E hr h => ?_)
  · obtain ⟨_, _, _, _, rfl, _⟩ := h
    rfl
  · obtain ⟨r, rs, wy, fa, rfl, hr', rm, l1, l16, w0, w9, f0, fb, k⟩ := h
    refine ⟨_, (pss_cons (ps_if (pt_cmpR op_lt (pv 1) pe_int (nomark _))
        (pss_cons (ps_set (i := 3) scRsp.nd rfl (Or.inl rfl) (pe_lst (pa_cons (pe_tup (pa_cons pe_int (pa_cons pe_int pa_nil))) (pa_cons (pe_tup (pa_cons (pe_op op_sub (pe_un un_neg pe_int) (pv 2)) (pa_cons pe_int pa_nil))) (pa_cons (pe_tup (pa_cons (pe_op op_add pe_int (pe_op op_mulB pe_int (pv 2))) (pa_cons pe_int pa_nil))) (pa_cons (pe_tup (pa_cons pe_bl (pa_cons pe_int pa_nil))) (pa_cons (pe_op op_add pe_int (pv 2)) (pa_cons (pe_tup (pa_cons pe_int (pa_cons pe_int (pa_cons pe_int pa_nil)))) (pa_cons pe_non pa_nil)))))))))
        (pss_one (ps_ret (pe_op op_catTA (pe_slice sl_tup (pv 0) po_none (po_some (pe_un un_neg pe_int))) (pe_tup (pa_cons (pe_ix ix_list (pv 3) (pv 1) (fun _ _ => rfl)) pa_nil))))))
        pss_nil)
      (pss_cons (ps_if (pt_cmpR op_eq (pv 1) pe_int (nomark _))
        (pss_one (ps_ret (pe_tup pa_nil)))
        pss_nil)
      (pss_cons (ps_if (pt_cmpR op_eq (pv 1) pe_int (nomark _))
        (pss_one (ps_ret (pe_op op_repT (pe_tup (pa_cons (pe_tup (pa_cons pe_int (pa_cons pe_int pa_nil))) pa_nil)) pe_int)))
        pss_nil)
      (pss_one (ps_ret (pe_callTy call_list_of rfl T.list' bt_list (pa_cons (pv 0) pa_nil))))))), ?_⟩
    refine ⟨_, rfl, _, _, rfl, rfl, _, rfl, ite2 (fun hc => ?_) (fun _ => ?_)⟩
    · have w7 : wy < 7 := of_decide_eq_true hc
      refine ⟨(by show 2 ≤ sizeLine; decide), fun q0 n0 => ?_⟩
      have t0 := Same.upd (o := .tup [.int 0, .int 1]) n0
      refine ⟨_, rfl, _, rfl, _, _, rfl, rfl, (by show 2 ≤ sizeLine; decide), fun q1 n1 => ?_⟩
      have t1 := Same.upd (o := .tup [.int (-1 - fa), .int 1]) n1
      refine ⟨_, rfl, _, _, rfl, rfl, ⟨bl, fb.mono (by decide)⟩, _, _, rfl, rfl, (by show 2 ≤ sizeLine; decide), fun q2 n2 => ?_⟩
      have t2 := Same.upd (o := .tup [.int (2 + 2 * fa), .int 2]) n2
      refine ⟨(by show 2 ≤ sizeLine; decide), fun q3 n3 => ?_⟩
      have t3 := Same.upd (o := .tup [.bl true, .int 1]) n3
      refine ⟨_, rfl, _, _, rfl, rfl, (by show 3 ≤ sizeLine; decide), fun q5 n5 => ?_⟩
      have t5 := Same.upd (o := .tup [.int 1, .int 1, .int 1]) n5
      refine ⟨(by show 7 ≤ sizeLine; decide), fun l nl => ?_⟩
      have tl := Same.upd (o := .lst [.ref q0, .ref q1, .ref q2, .ref q3, .int (1 + fa), .ref q5, .non]) nl
      have tt := ((((t0.trans t1).trans t2).trans t3).trans t5).trans tl
      have cl := cut_last l1
      have hrl := tt _ _ hr'
      refine ⟨_, rfl, _, rfl, _, rfl, r, rs, rfl, SqT.of hrl, cl.2, fun p np => ?_⟩
      rw [cl.1]
      have tp := Same.upd (o := .tup (rs.take (rs.length - 1))) np
      obtain ⟨u, hu, ru⟩ := pick7 (P := fun v => RmV K (upd (upd (upd (upd (upd (upd (upd H q0 (.tup [.int 0, .int 1])) q1 (.tup [.int (-1 - fa), .int 1])) q2 (.tup [.int (2 + 2 * fa), .int 2])) q3 (.tup [.bl true, .int 1])) q5 (.tup [.int 1, .int 1, .int 1])) l (.lst [.ref q0, .ref q1, .ref q2, .ref q3, .int (1 + fa), .ref q5, .non])) p (.tup (rs.take (rs.length - 1)))) v false)
        (x0 := .ref q0) (x1 := .ref q1) (x2 := .ref q2) (x3 := .ref q3) (x4 := .int (1 + fa)) (x5 := .ref q5) (x6 := .non)
        (.zero (SqT.of (tp _ _ (tl _ _ (t5 _ _ (t3 _ _ (t2 _ _ (t1 _ _ upd_same))))))))
        (am_false (SqT.of (tp _ _ (tl _ _ (t5 _ _ (t3 _ _ (t2 _ _ upd_same)))))) (.inl (by omega)))
        (am_false (SqT.of (tp _ _ (tl _ _ (t5 _ _ (t3 _ _ upd_same))))) (.inr (g_two fa)))
        (.am (.tru (SqT.of (tp _ _ (tl _ _ (t5 _ _ upd_same))))))
        (.am .int)
        (.am (.len (SqT.of (tp _ _ (tl _ _ upd_same))) (by decide)))
        (.am .non) w0 w7
      refine ⟨_, rfl, _, rfl, l, _, _, _, rfl, rfl, SqL.of (tp _ _ upd_same), hu, (by show 1 ≤ sizeLine; decide), fun z nz => ?_⟩
      have tz := Same.upd (o := .tup [u]) nz
      have all := (tt.trans tp).trans tz
      have ru' := ru.keep tz
      have rc : RmsT (upd (upd (upd (upd (upd (upd (upd (upd H q0 (.tup [.int 0, .int 1])) q1 (.tup [.int (-1 - fa), .int 1])) q2 (.tup [.int (2 + 2 * fa), .int 2])) q3 (.tup [.bl true, .int 1])) q5 (.tup [.int 1, .int 1, .int 1])) l (.lst [.ref q0, .ref q1, .ref q2, .ref q3, .int (1 + fa), .ref q5, .non])) p (.tup (rs.take (rs.length - 1)))) z (.tup [u])) (rs.take (rs.length - 1)) := (rm.keep all.tk).cut _
      have tkl : (rs.take (rs.length - 1)).length ≤ 15 := by rw [List.length_take]; omega
      by_cases em : rs.take (rs.length - 1) = []
      · refine .inl ⟨p, z, _, rfl, rfl, SqT.of ((tz _ _ upd_same).trans (congrArg (fun y => some (HO.tup y)) em)), SqT.of upd_same, k _ _ all ?_⟩
        exact rooms_bad (us := []) (SqT.of upd_same) (by decide) RmsT.nil ru'
      · refine .inr ⟨p, z, _, _, rfl, rfl, SqT.of (tz _ _ upd_same), SqT.of upd_same, em, sz1000 (by rw [List.length_singleton]; omega), (fun e => by cases e), fun _ y ny => ?_⟩
        have ty := Same.upd (o := .tup (rs.take (rs.length - 1) ++ [u])) ny
        exact k _ _ (all.trans ty) (rooms_bad (SqT.of upd_same) tkl (rc.keep ty.tk) (ru'.keep ty))
    refine ⟨_, rfl, rfl, _, rfl, ite2 (fun _ => ?_) (fun _ => ?_)⟩
    · exact ⟨(by show 0 ≤ sizeLine; decide), fun q n => k _ _ (Same.upd n) (.none (SqT.of upd_same))⟩
    refine ⟨_, rfl, rfl, _, rfl, ite2 (fun _ => ?_) (fun _ => ?_)⟩
    · refine ⟨(by show 2 ≤ sizeLine; decide), fun q n => ⟨(by show 1 ≤ sizeLine; decide), fun q2 n2 => ?_⟩⟩
      refine ⟨q2, 17, _, rfl, rfl, SqT.of upd_same, (fun e => by cases e), by decide, by decide, (by show 1 ≤ 1000; decide), fun p np => ?_⟩
      exact k _ _ (((Same.upd n).trans (Same.upd n2)).trans (Same.upd np)) (.many (SqT.of upd_same) (by show 16 < 17; decide))
    · exact ⟨_, rfl, r, rs, rfl, .inr (SqT.of hr'), fun l nl => k _ _ (Same.upd nl) (.lst (SqL.of upd_same))⟩
end
end K31

namespace K31
open PySem PySem.Spec PyProof.Rows L2 GM TM
theorem at_int {α : Type} {xs : List α} {e : Int} (h0 : 0 ≤ e) (h : e < (xs.length : Int)) : ∃ x, atI xs e = some x := by
  obtain ⟨n, rfl⟩ := Int.eq_ofNat_of_zero_le h0
  have hn : n < xs.length := by omega
  exact ⟨xs[n], atI_nat (List.getElem?_eq_getElem hn)⟩
theorem at_neg {ss : List Str} (h : Six ss) {j : Nat} {e : Int} (he : e = (j : Int) - 6) (hj : j < 6) : atI (ss.map V.str) e = some (.str (ss.getD j "")) := by
  have l : (ss.map V.str).length = 6 := by rw [List.length_map, h.l]
  unfold atI ixN
  rw [l, if_neg (by omega), if_pos (by omega), show (e + ((6 : Nat) : Int)).toNat = j by omega]
  show (ss.map V.str)[j]? = _
  rw [List.getElem?_map, h.get hj]
  rfl
theorem Wr.l1000 {x : Str} (h : Wr x) : x.length ≤ 1000 := by
  have := h.l8
  omega
theorem pair_ok {K : PySem.W.Frag} {H : Hp} {a : Addr} {x y : Str} (h : SqT K H a [.str x, .str y]) (wx : Wr x) (wy : Wr y) (l : ltS x y) : PairV K H (.ref a) true := by
  have e := PairV.two h wx.l1000 wy.l1000
  rw [decide_eq_true wx, decide_eq_true wy, decide_eq_true l] at e
  exact e
theorem pair_no {K : PySem.W.Frag} {H : Hp} {a : Addr} {x y : Str} (h : SqT K H a [.str x, .str y]) (lx : x.length ≤ 1000) (ly : y.length ≤ 1000) (n : ¬ Wr y ∨ ¬ ltS x y) : PairV K H (.ref a) false := by
  have e := PairV.two h lx ly
  have z : (decide (Wr x) && (decide (Wr y) && decide (x.cps.toList < y.cps.toList))) = false := by
    rcases n with n | n
    · rw [decide_eq_false n]
      simp
    · rw [decide_eq_false n]
      simp
  rw [z] at e
  exact e
theorem PsT.each {K : PySem.W.Frag} {H : Hp} {us : List V} {ps : List (Str × Str)} (h : PsT H us ps) (ok : ∀ p ∈ ps, Wr p.1 ∧ Wr p.2 ∧ ltS p.1 p.2) : Each (PairV K H) us (List.replicate us.length true) := by
  refine ⟨by rw [List.length_replicate], fun i u b hu hb => ?_⟩
  have : b = true := List.eq_of_mem_replicate (List.mem_of_getElem? hb)
  subst this
  obtain ⟨p, hp⟩ : ∃ p, ps[i]? = some p := ⟨_, List.getElem?_eq_getElem (by rw [← h.1]; exact (List.getElem?_eq_some_iff.mp hu).1)⟩
  obtain ⟨q, rfl, sq⟩ := h.2 i u p hu hp
  have o := ok p (List.mem_of_getElem? hp)
  exact pair_ok (SqT.of sq) o.1 o.2.1 o.2.2
theorem pairs_bad {K : PySem.W.Frag} {H : Hp} {a : Addr} {u : V} {us : List V} {ps : List (Str × Str)} (h : SqT K H a ([u] ++ us)) (pt : PsT H us ps) (g : GoodPs ps) (pu : PairV K H u false) : PairsV K H (.ref a) false := by
  refine .sq h (by rw [List.length_append, List.length_singleton, pt.1]; have := g.l; omega) ((Each.cons pu Each.nil).append (pt.each g.ok)) (fun _ => rfl) (fun z => ?_)
  have : ([false] ++ List.replicate us.length true).all id = false := rfl
  rw [this] at z
  cases z
theorem pairs_good {K : PySem.W.Frag} {H : Hp} {a : Addr} {us : List V} {ps : List (Str × Str)} (h : SqT K H a us) (pt : PsT H us ps) (g : GoodPs ps) : PairsV K H (.ref a) true :=
  .sq h (by rw [pt.1]; have := g.l; omega) (pt.each g.ok) (fun z => by rw [all_rep] at z; cases z) (fun _ => ⟨ps, pt.psl, ⟨fun _ => g.r, fun _ => rfl⟩⟩)
theorem rooms_good {K : PySem.W.Frag} {H : Hp} {a : Addr} {us : List V} (h : SqT K H a us) (l1 : 1 ≤ us.length) (l16 : us.length ≤ 16) (r : RmsT H us) : RoomsV K H (.ref a) true := by
  have e := RoomsV.sq h l1 l16 (r.each (K := K))
  rw [all_rep] at e
  exact e
theorem pairs_two {K : PySem.W.Frag} {H : Hp} {a q1 q2 : Addr} {p r : Str × Str} (h : SqT K H a [.ref q1, .ref q2]) (h1 : H q1 = some (.tup [.str p.1, .str p.2])) (h2 : H q2 = some (.tup [.str r.1, .str r.2])) (o1 : Wr p.1 ∧ Wr p.2 ∧ ltS p.1 p.2) (o2 : Wr r.1 ∧ Wr r.2 ∧ ltS r.1 r.2) (n : ¬ ltP p r) : PairsV K H (.ref a) false := by
  have pt : PsT H [.ref q1, .ref q2] [p, r] := (PsT.nil.add (p := p) h1).add (p := r) h2
  refine .sq h (by show 2 ≤ 30; decide) (pt.each fun x hx => ?_) (fun _ => rfl) (fun _ => ⟨_, pt.psl, ⟨fun z => (by cases z), fun z => absurd (z 0 p r rfl rfl) n⟩⟩)
  rcases List.mem_cons.mp hx with rfl | hx
  · exact o1
  · rw [List.mem_singleton.mp hx]
    exact o2
theorem ltP_irr {p : Str × Str} : ¬ ltP p p := fun h => by
  have h' : HT.lexLtS [p.1, p.2] [p.1, p.2] = true := h
  rw [HT.lexLtS_cons, if_pos rfl, HT.lexLtS_cons, if_pos rfl, HT.lexLtS_nil_nil] at h'
  cases h'
theorem ltP_no {a b c d : Str} (h : ltS c a) : ¬ ltP (a, b) (c, d) := fun k => by
  have h' : HT.lexLtS [a, b] [c, d] = true := k
  rw [HT.lexLtS_cons, if_neg (fun e => lt_ne h e.symm)] at h'
  exact List.lt_irrefl _ (List.lt_trans h (of_decide_eq_true h'))
theorem wr_A : ¬ Wr "A" := by decide +kernel
theorem odd_pick {K : PySem.W.Frag} {H : Hp} {q0 q1 q2 q3 q4 q5 q6 : Addr} {ss : List Str} {e : Int} (six : Six ss) (e0 : 0 ≤ e) (e7 : e < 7) (h0 : H q0 = some (.tup [.str (ss.getD 1 ""), .str (ss.getD 0 "")])) (h1 : H q1 = some (.tup [.str (ss.getD 0 ""), .str (ss.getD 0 "")]))
    (h2 : H q2 = some (.tup [.str (ss.getD 0 ""), .str (ss.getD 1 ""), .str (ss.getD 2 "")])) (h3 : H q3 = some (.lst [.str (ss.getD 0 ""), .str (ss.getD 1 "")])) (h4 : H q4 = some (.tup [.str (ss.getD 0 ""), .str "A"]))
    (h5 : H q5 = some (.tup [.str (ss.getD 0 ""), .int 1])) (h6 : H q6 = some (.tup [.str (ss.getD 0 ""), .str (ss.getD 1 "" ++ "abcdefgh")])) :
    ∃ u, atI [V.ref q0, V.ref q1, V.ref q2, V.ref q3, V.ref q4, V.ref q5, V.ref q6] e = some u ∧ PairV K H u false := by
  have w0 := six.w (i := 0) (by decide)
  have w1 := six.w (i := 1) (by decide)
  have l01 := six.lt (i := 0) (k := 1) (by decide) (by decide)
  have l9 : (ss.getD 1 "" ++ "abcdefgh").length = (ss.getD 1 "").length + 8 := by rw [lenA]; rfl
  exact pick7 (P := fun v => PairV K H v false)
    (pair_no (SqT.of h0) w1.l1000 w0.l1000 (.inr fun z => List.lt_irrefl _ (List.lt_trans l01 z)))
    (pair_no (SqT.of h1) w0.l1000 w0.l1000 (.inr fun z => List.lt_irrefl _ z))
    (.len (SqT.of h2) (by show 3 ≠ 2; decide))
    (.lst (SqL.of h3))
    (pair_no (SqT.of h4) w0.l1000 (by decide) (.inl wr_A))
    (.odd (SqT.of h5) w0.l1000)
    (pair_no (SqT.of h6) w0.l1000 (by rw [l9]; have := w1.l8; omega) (.inl fun z => by have := z.l8; have := w1.l1; omega)) e0 e7
def spAsp (K : PySem.W.Frag) : Sp := fun vs H Q _ => ∃ (q : Addr) (us : List V) (ps : List (Str × Str)) (a : Addr) (ws : List Str) (w : Int), vs = [.ref q, .ref a, .int w] ∧ H q = some (.tup us) ∧ PsT H us ps ∧ GoodPs ps ∧ SqL K H a (ws.map V.str) ∧ Six0 ws ∧ 0 ≤ w ∧ w ≤ 10 ∧ ∀ v H', Same H H' → PairsV K H' v false → Q v H'
section
variable {P : Program} {w : World} {K : PySem.W.Frag} {mg : Str → Option Value} {base : Heap}
theorem ndK : (["_law_k"] : List Str).Nodup := by decide +kernel
theorem scAsp : FnScope ["_law_apart_here", "_law_wares_here", "_law_way", "_law_some", "_law_odd", "_law_last"] ["_law_apart_here", "_law_wares_here", "_law_way"] (defScope sAsp) := ⟨rfl, rfl, rfl, by decide +kernel, rfl, by decide +kernel, by decide +kernel⟩
theorem ok_asp {f : Addr} {fd : FuncData} (F : Fun K "_law_apart_spoiled" "_law_apart_spoiled" sAsp f fd) (T : Txt mg) : FnOk P w K mg base CX0 1 f fd ["_law_apart_here", "_law_wares_here", "_law_way"] (spAsp K) := by
  refine F.ok scAsp (fun vs H Q E h => ?_) (fun cdv A outer s H vs Q E hr h => ?_)
  · obtain ⟨_, _, _, _, _, _, rfl, _⟩ := h
    rfl
  · obtain ⟨q, us, ps, a, ws, wy, rfl, hq, pt, g, ha, six0, w0, w10, k⟩ := h
    refine ⟨_, (pss_cons (ps_set (i := 3) scAsp.nd rfl (Or.inl rfl) (pe_callB call_sortS rfl T.sorted' boot_sorted (pa_cons (pv 1) pa_nil)))
      (pss_cons (ps_set (i := 4) scAsp.nd rfl (Or.inl rfl) (pe_lst
        (pa_cons (pe_tup (pa_cons (pe_ix ix_list (pv 3) pe_int (fun _ _ => rfl)) (pa_cons (pe_ix ix_list (pv 3) pe_int (fun _ _ => rfl)) pa_nil)))
        (pa_cons (pe_tup (pa_cons (pe_ix ix_list (pv 3) pe_int (fun _ _ => rfl)) (pa_cons (pe_ix ix_list (pv 3) pe_int (fun _ _ => rfl)) pa_nil)))
        (pa_cons (pe_tup (pa_cons (pe_ix ix_list (pv 3) pe_int (fun _ _ => rfl)) (pa_cons (pe_ix ix_list (pv 3) pe_int (fun _ _ => rfl)) (pa_cons (pe_ix ix_list (pv 3) pe_int (fun _ _ => rfl)) pa_nil))))
        (pa_cons (pe_lst (pa_cons (pe_ix ix_list (pv 3) pe_int (fun _ _ => rfl)) (pa_cons (pe_ix ix_list (pv 3) pe_int (fun _ _ => rfl)) pa_nil)))
        (pa_cons (pe_tup (pa_cons (pe_ix ix_list (pv 3) pe_int (fun _ _ => rfl)) (pa_cons pe_str pa_nil))) pa_nil)))))))
      (pss_cons (ps_set (i := 4) scAsp.nd rfl (Or.inl rfl) (pe_op op_cat (pv 4) (pe_lst
        (pa_cons (pe_tup (pa_cons (pe_ix ix_list (pv 3) pe_int (fun _ _ => rfl)) (pa_cons pe_int pa_nil)))
        (pa_cons (pe_tup (pa_cons (pe_ix ix_list (pv 3) pe_int (fun _ _ => rfl)) (pa_cons (pe_op op_add_str (pe_ix ix_list (pv 3) pe_int (fun _ _ => rfl)) pe_str) pa_nil))) pa_nil)))))
      (pss_cons (ps_if (pt_cmpR op_lt (pv 2) pe_int (nomark _))
        (pss_one (ps_ret (pe_op op_catT (pe_tup (pa_cons (pe_ix ix_list (pv 4) (pv 2) (fun _ _ => rfl)) pa_nil)) (pv 0))))
        pss_nil)
      (pss_cons (ps_set (i := 5) scAsp.nd rfl (Or.inl rfl) (pe_tup (pa_cons (pe_ix ix_list (pv 3) (pe_un un_neg pe_int) (fun _ _ => rfl)) (pa_cons (pe_ix ix_list (pv 3) (pe_un un_neg pe_int) (fun _ _ => rfl)) pa_nil))))
      (pss_cons (ps_if (pt_cmpR op_eq (pv 2) pe_int (nomark _))
        (pss_one (ps_ret (pe_tup (pa_cons (pv 5) (pa_cons (pv 5) pa_nil)))))
        pss_nil)
      (pss_cons (ps_if (pt_cmpR op_eq (pv 2) pe_int (nomark _))
        (pss_one (ps_ret (pe_tup (pa_cons (pv 5) (pa_cons (pe_tup (pa_cons (pe_ix ix_list (pv 3) pe_int (fun _ _ => rfl)) (pa_cons (pe_ix ix_list (pv 3) pe_int (fun _ _ => rfl)) pa_nil))) pa_nil)))))
        pss_nil)
      (pss_cons (ps_if (pt_cmpR op_eq (pv 2) pe_int (nomark _))
        (pss_one (ps_ret (pe_callTy call_tuple_of rfl T.tup' bt_tuple (pa_cons (pe_comp (N' := ["_law_k"]) (cl := []) (fun _ => [none]) rfl rfl (by decide +kernel) (by decide +kernel) (clOk_plain (by decide +kernel)) (fun _ _ => blkN_none)
          (pi_range1 rfl T.range (pa_cons pe_int pa_nil)) (fun _ _ _ _ _ => pg_name (i := 0) ndK rfl (Or.inl rfl)) (fun _ _ _ _ _ => pifs_nil)
          (fun _ _ _ _ _ => pe_tup (pa_cons pe_str (pa_cons (pe_op op_add_str (pe_ix ix_str pe_str (pe_op op_fdivB (pv 0) pe_int) (fun _ _ => rfl)) (pe_ix ix_str pe_str (pe_op op_mod (pv 0) pe_int) (fun _ _ => rfl))) pa_nil)))) pa_nil))))
        pss_nil)
      (pss_one (ps_ret (pe_callTy call_list_of rfl T.list' bt_list (pa_cons (pv 0) pa_nil)))))))))))), ?_⟩
    refine ⟨_, rfl, a, ws, rfl, ha, by have := six0.l; omega, fun z ss pm st hz => ?_⟩
    have six := Six.of six0 pm st
    have tz := Same.upd (o := .lst (ss.map V.str)) hz
    have i0 : atI (ss.map V.str) 0 = some (.str (ss.getD 0 "")) := at_six six (i := 0) (by decide) rfl
    have i1 : atI (ss.map V.str) 1 = some (.str (ss.getD 1 "")) := at_six six (i := 1) (by decide) rfl
    have i2 : atI (ss.map V.str) 2 = some (.str (ss.getD 2 "")) := at_six six (i := 2) (by decide) rfl
    have hz0 : (upd H z (.lst (ss.map V.str))) z = some (.lst (ss.map V.str)) := upd_same
    refine ⟨_, rfl, z, _, _, _, rfl, rfl, SqL.of hz0, i1, _, rfl, z, _, _, _, rfl, rfl, SqL.of hz0, i0, (by show 2 ≤ sizeLine; decide), fun q0 n0 => ?_⟩
    have t0 := Same.upd (o := .tup [.str (ss.getD 1 ""), .str (ss.getD 0 "")]) n0
    have hz1 := t0 _ _ hz0
    refine ⟨_, rfl, z, _, _, _, rfl, rfl, SqL.of hz1, i0, _, rfl, z, _, _, _, rfl, rfl, SqL.of hz1, i0, (by show 2 ≤ sizeLine; decide), fun q1 n1 => ?_⟩
    have t1 := Same.upd (o := .tup [.str (ss.getD 0 ""), .str (ss.getD 0 "")]) n1
    have hz2 := t1 _ _ hz1
    refine ⟨_, rfl, z, _, _, _, rfl, rfl, SqL.of hz2, i0, _, rfl, z, _, _, _, rfl, rfl, SqL.of hz2, i1, _, rfl, z, _, _, _, rfl, rfl, SqL.of hz2, i2, (by show 3 ≤ sizeLine; decide), fun q2 n2 => ?_⟩
    have t2 := Same.upd (o := .tup [.str (ss.getD 0 ""), .str (ss.getD 1 ""), .str (ss.getD 2 "")]) n2
    have hz3 := t2 _ _ hz2
    refine ⟨_, rfl, z, _, _, _, rfl, rfl, SqL.of hz3, i0, _, rfl, z, _, _, _, rfl, rfl, SqL.of hz3, i1, (by show 2 ≤ sizeLine; decide), fun q3 n3 => ?_⟩
    have t3 := Same.upd (o := .lst [.str (ss.getD 0 ""), .str (ss.getD 1 "")]) n3
    have hz4 := t3 _ _ hz3
    refine ⟨_, rfl, z, _, _, _, rfl, rfl, SqL.of hz4, i0, (by show 2 ≤ sizeLine; decide), fun q4 n4 => ?_⟩
    have t4 := Same.upd (o := .tup [.str (ss.getD 0 ""), .str "A"]) n4
    have hz5 := t4 _ _ hz4
    refine ⟨(by show 5 ≤ sizeLine; decide), fun l1 nl1 => ?_⟩
    have tl1 := Same.upd (o := .lst [.ref q0, .ref q1, .ref q2, .ref q3, .ref q4]) nl1
    have hz6 := tl1 _ _ hz5
    refine ⟨_, rfl, _, rfl, z, _, _, _, rfl, rfl, SqL.of hz6, i0, (by show 2 ≤ sizeLine; decide), fun q5 n5 => ?_⟩
    have t5 := Same.upd (o := .tup [.str (ss.getD 0 ""), .int 1]) n5
    have hz7 := t5 _ _ hz6
    refine ⟨_, rfl, z, _, _, _, rfl, rfl, SqL.of hz7, i0, _, rfl, z, _, _, _, rfl, rfl, SqL.of hz7, i1, _, _, rfl, rfl, sz1000 (by have := (six.w (i := 1) (by decide)).l8; show _ + 8 ≤ 1000; omega), (by show 2 ≤ sizeLine; decide), fun q6 n6 => ?_⟩
    have t6 := Same.upd (o := .tup [.str (ss.getD 0 ""), .str (ss.getD 1 "" ++ "abcdefgh")]) n6
    have hz8 := t6 _ _ hz7
    refine ⟨(by show 2 ≤ sizeLine; decide), fun l2 nl2 => ?_⟩
    have tl2 := Same.upd (o := .lst [.ref q5, .ref q6]) nl2
    have hz9 := tl2 _ _ hz8
    refine ⟨l1, l2, _, _, rfl, rfl, tl2 _ _ (t6 _ _ (t5 _ _ upd_same)), upd_same, (by show 5 + 2 ≤ sizeLine; decide), fun l3 nl3 => ?_⟩
    have tl3 := Same.upd (o := .lst ([.ref q0, .ref q1, .ref q2, .ref q3, .ref q4] ++ [.ref q5, .ref q6])) nl3
    have hza := tl3 _ _ hz9
    have tt := tz.trans (t0.trans (t1.trans (t2.trans (t3.trans (t4.trans (tl1.trans (t5.trans (t6.trans (tl2.trans tl3)))))))))
    refine ⟨_, rfl, _, _, rfl, rfl, _, rfl, ite2 (fun hc => ?_) (fun hc => ?_)⟩
    · have w7 : wy < 7 := of_decide_eq_true hc
      obtain ⟨u, hu, pu⟩ := odd_pick (K := K) six w0 w7
        (tl3 _ _ (tl2 _ _ (t6 _ _ (t5 _ _ (tl1 _ _ (t4 _ _ (t3 _ _ (t2 _ _ (t1 _ _ upd_same)))))))))
        (tl3 _ _ (tl2 _ _ (t6 _ _ (t5 _ _ (tl1 _ _ (t4 _ _ (t3 _ _ (t2 _ _ upd_same))))))))
        (tl3 _ _ (tl2 _ _ (t6 _ _ (t5 _ _ (tl1 _ _ (t4 _ _ (t3 _ _ upd_same)))))))
        (tl3 _ _ (tl2 _ _ (t6 _ _ (t5 _ _ (tl1 _ _ (t4 _ _ upd_same))))))
        (tl3 _ _ (tl2 _ _ (t6 _ _ (t5 _ _ (tl1 _ _ upd_same)))))
        (tl3 _ _ (tl2 _ _ (t6 _ _ upd_same)))
        (tl3 _ _ (tl2 _ _ upd_same))
      refine ⟨_, rfl, _, rfl, l3, _, _, _, rfl, rfl, SqL.of upd_same, hu, (by show 1 ≤ sizeLine; decide), fun y ny => ?_⟩
      have ty := Same.upd (o := .tup [u]) ny
      have all := tt.trans ty
      refine ⟨_, rfl, y, q, [u], us, rfl, rfl, SqT.of upd_same, SqT.of (all _ _ hq), (fun e => by cases e), sz1000 (by rw [List.length_singleton, pt.1]; have := g.l; omega), (fun e => ?_), fun _ p np => ?_⟩
      · refine k _ _ all (pairs_bad (us := []) (ps := []) (SqT.of upd_same) PsT.nil ⟨by decide, fun i p q h => by simp at h, fun p h => nomatch h⟩ (pu.keep ty))
      · have tp := Same.upd (o := .tup ([u] ++ us)) np
        exact k _ _ (all.trans tp) (pairs_bad (SqT.of upd_same) (pt.keep (all.trans tp).tk) g ((pu.keep ty).keep tp))
    have i4 : atI (ss.map V.str) (-2) = some (.str (ss.getD 4 "")) := at_neg six (j := 4) (by decide) (by decide)
    have i5 : atI (ss.map V.str) (-1) = some (.str (ss.getD 5 "")) := at_neg six (j := 5) (by decide) (by decide)
    have ok : ∀ {i j : Nat}, i < j → j < 6 → Wr (ss.getD i "", ss.getD j "").1 ∧ Wr (ss.getD i "", ss.getD j "").2 ∧ ltS (ss.getD i "", ss.getD j "").1 (ss.getD i "", ss.getD j "").2 := fun ij h => ⟨six.w (by omega), six.w h, six.lt ij h⟩
    refine ⟨_, rfl, _, rfl, z, _, _, _, rfl, rfl, SqL.of hza, i4, _, rfl, _, rfl, z, _, _, _, rfl, rfl, SqL.of hza, i5, (by show 2 ≤ sizeLine; decide), fun y ny => ?_⟩
    have ty := Same.upd (o := .tup [.str (ss.getD 4 ""), .str (ss.getD 5 "")]) ny
    have all := tt.trans ty
    refine ⟨_, rfl, rfl, _, rfl, ite2 (fun _ => ?_) (fun _ => ?_)⟩
    · refine ⟨_, rfl, _, rfl, (by show 2 ≤ sizeLine; decide), fun p np => ?_⟩
      have tp := Same.upd (o := .tup [.ref y, .ref y]) np
      exact k _ _ (all.trans tp) (pairs_two (p := (ss.getD 4 "", ss.getD 5 "")) (r := (ss.getD 4 "", ss.getD 5 "")) (SqT.of upd_same) (tp _ _ upd_same) (tp _ _ upd_same) (ok (by decide) (by decide)) (ok (by decide) (by decide)) ltP_irr)
    refine ⟨_, rfl, rfl, _, rfl, ite2 (fun _ => ?_) (fun _ => ?_)⟩
    · refine ⟨_, rfl, _, rfl, z, _, _, _, rfl, rfl, SqL.of (ty _ _ hza), i0, _, rfl, z, _, _, _, rfl, rfl, SqL.of (ty _ _ hza), i1, (by show 2 ≤ sizeLine; decide), fun y2 ny2 => ⟨(by show 2 ≤ sizeLine; decide), fun p np => ?_⟩⟩
      have ty2 := Same.upd (o := .tup [.str (ss.getD 0 ""), .str (ss.getD 1 "")]) ny2
      have tp := Same.upd (o := .tup [.ref y, .ref y2]) np
      exact k _ _ ((all.trans ty2).trans tp) (pairs_two (p := (ss.getD 4 "", ss.getD 5 "")) (r := (ss.getD 0 "", ss.getD 1 "")) (SqT.of upd_same) (tp _ _ (ty2 _ _ upd_same)) (tp _ _ upd_same) (ok (by decide) (by decide)) (ok (by decide) (by decide)) (ltP_no (six.lt (by decide) (by decide))))
    refine ⟨_, rfl, rfl, _, rfl, ite2 (fun _ => ?_) (fun _ => ?_)⟩
    · refine ⟨31, rfl, by decide, by decide, fun D hD => ?_⟩
      refine comp_rel (Ys.rng (lo := 0) (n := 31)) (fun _ _ _ _ => True) (fun _ _ _ _ _ _ _ => trivial) hD (by decide) (fun i v H2 R hv sm hR => ?_) (fun ys H2 sm hD' yl _ => ?_)
      · obtain ⟨hi, rfl⟩ := rngV_get hv
        have e8 := emod_in ((0 : Int) + i) (m := 8) (by decide)
        obtain ⟨c1, hc1⟩ := at_int (xs := ("bcde" : Str).cps.toList) (e := ((0 : Int) + i) / 8) (by omega) (by show _ < (4 : Int); omega)
        obtain ⟨c2, hc2⟩ := at_int (xs := ("abcdefgh" : Str).cps.toList) (e := ((0 : Int) + i) % 8) e8.1 (by show _ < (8 : Int); omega)
        refine ⟨(Keep.refl _).set rfl, _, rfl, _, _, rfl, rfl, ⟨by decide, b9⟩, "bcde", _, c1, rfl, rfl, (by decide +kernel), hc1, _, rfl, _, _, rfl, rfl, (by show (0 : Int) < 8; decide), "abcdefgh", _, c2, rfl, rfl, (by decide +kernel), hc2, _, _, rfl, rfl, sz1000 (by show 1 + 1 ≤ 1000; decide), (by show 2 ≤ sizeLine; decide), fun p np => ?_⟩
        exact hR _ _ (Same.upd np) trivial
      · refine ⟨D, ys, rfl, .inl ⟨SqL.of hD', fun p np => ?_⟩⟩
        exact k _ _ ((all.trans sm).trans (Same.upd np)) (.many (SqT.of upd_same) (by rw [yl]; show 30 < 31; decide))
    · exact ⟨_, rfl, q, us, rfl, .inr (SqT.of (all _ _ hq)), fun l nl => k _ _ (all.trans (Same.upd nl)) (.lst (SqL.of upd_same))⟩
end
end K31

namespace K31
open PySem PySem.Spec PyProof.Rows L2 GM TM
def T60 : Int := 1000000000000000000000000000000000000000000000000000000000000
theorem e60 : (10 : Int) ^ Int.toNat 60 = T60 := by decide +kernel
theorem Bn.rooms {K : PySem.W.Frag} {H : Hp} {p r q : Addr} {rs us : List V} {ps : List (Str × Str)} (h : Bn H p r q rs us ps) : RoomsV K H (.ref r) true := rooms_good (SqT.of h.hr) h.l1 h.l16 h.rm
theorem Bn.pairs {K : PySem.W.Frag} {H : Hp} {p r q : Addr} {rs us : List V} {ps : List (Str × Str)} (h : Bn H p r q rs us ps) : PairsV K H (.ref q) true := pairs_good (SqT.of h.hq) h.pt h.g
theorem Bn.bench {K : PySem.W.Frag} {H : Hp} {p r q : Addr} {rs us : List V} {ps : List (Str × Str)} (h : Bn H p r q rs us ps) : BenchV K H (.ref p) true := .two (SqT.of h.hp) h.rooms h.pairs
theorem pickB {P : V → Prop} {x0 x1 x2 x3 : V} (h0 : P x0) (h1 : P x1) (h2 : P x2) (h3 : P x3) {e : Int} (e0 : 0 ≤ e) (e4 : e < 4) : ∃ x, atI [x0, x1, x2, x3] e = some x ∧ P x := by
  obtain ⟨n, rfl⟩ := Int.eq_ofNat_of_zero_le e0
  have : n = 0 ∨ n = 1 ∨ n = 2 ∨ n = 3 := by omega
  rcases this with rfl | rfl | rfl | rfl
  · exact ⟨_, rfl, h0⟩
  · exact ⟨_, rfl, h1⟩
  · exact ⟨_, rfl, h2⟩
  · exact ⟨_, rfl, h3⟩
theorem bench_pick {K : PySem.W.Frag} {H : Hp} {e1 e2 e3 r q g : Addr} {e : Int} (e0 : 0 ≤ e) (e4 : e < 4) (h1 : H e1 = some (.lst [.ref r, .ref q])) (h2 : H e2 = some (.tup [.ref r])) (h3 : H e3 = some (.tup ([.ref r, .ref q] ++ [.ref g]))) :
    ∃ u, atI [V.ref e1, V.ref e2, V.ref e3, V.non] e = some u ∧ BenchV K H u false :=
  pickB (P := fun v => BenchV K H v false) (.lst (SqL.of h1)) (.len (SqT.of h2) (by show 1 ≠ 2; decide)) (.len (SqT.of h3) (by show 3 ≠ 2; decide)) .non e0 e4
def spSpoiled (K : PySem.W.Frag) : Sp := fun vs H Q _ => ∃ (p r q : Addr) (rs us : List V) (ps : List (Str × Str)) (a : Addr) (ws : List Str) (n : Int), vs = [.ref p, .ref a, .int n] ∧ Bn H p r q rs us ps ∧ SqL K H a (ws.map V.str) ∧ Six0 ws ∧ 0 ≤ n ∧ ∀ v H', Same H H' → BenchV K H' v false → Q v H'
def spLaw (K : PySem.W.Frag) : Sp := fun vs H Q _ => ∃ (a : Addr) (ns : List Int), vs = [.ref a] ∧ SqL K H a (ns.map V.int) ∧ ns.length ≤ 63 ∧ ∀ H', Q (.bl true) H'
theorem rep_one (v : V) (n : Nat) : (List.replicate n [v]).flatten = List.replicate n v := by
  induction n with
  | zero => rfl
  | succ n ih => rw [List.replicate_succ, List.flatten_cons, ih, List.replicate_succ]; rfl
theorem dl_rep {K : PySem.W.Frag} {H : Hp} {v : V} {d : Dt} (h : Dv K H 40 v d) (n : Nat) : DL K H 40 (List.replicate n v) (List.replicate n d) := by
  refine ⟨by rw [List.length_replicate, List.length_replicate], fun j x e hx he => ?_⟩
  rw [List.eq_of_mem_replicate (List.mem_of_getElem? hx), List.eq_of_mem_replicate (List.mem_of_getElem? he)]
  exact h
section
variable {P : Program} {w : World} {K : PySem.W.Frag} {mg : Str → Option Value} {base : Heap}
theorem scSpoiled : FnScope ["_law_bench_here", "_law_wares_here", "_law_number", "_law_way"] ["_law_bench_here", "_law_wares_here", "_law_number"] (defScope sSpoiled) := ⟨rfl, rfl, rfl, by decide +kernel, rfl, by decide +kernel, by decide +kernel⟩
theorem ok_spoiled {f : Addr} {fd : FuncData} (F : Fun K "_law_spoiled" "_law_spoiled" sSpoiled f fd) (cR : Cal P w K mg base CX0 1 "_law_rooms_spoiled" ["_law_rooms", "_law_way", "_law_far"] (spRsp K)) (cA : Cal P w K mg base CX0 1 "_law_apart_spoiled" ["_law_apart_here", "_law_wares_here", "_law_way"] (spAsp K)) : FnOk P w K mg base CX0 2 f fd ["_law_bench_here", "_law_wares_here", "_law_number"] (spSpoiled K) := by
  refine F.ok scSpoiled (fun vs H Q E h => ?_) (fun cdv A outer s H vs Q E hr h => ?_)
  · obtain ⟨_, _, _, _, _, _, _, _, _, rfl, _⟩ := h
    rfl
  · obtain ⟨p, r, q, rs, us, ps, a, ws, n, rfl, bn, ha, six0, n0, k⟩ := h
    refine ⟨_, (pss_cons (ps_set (i := 3) scSpoiled.nd rfl (Or.inl rfl) (pe_op op_mod (pv 2) pe_int))
      (pss_cons (ps_if (pt_cmpR op_lt (pv 3) pe_int (nomark _))
        (pss_one (ps_ret (pe_tup (pa_cons (pe_cal cR hr rfl pass0 (pa_cons (pit 0 0) (pa_cons (pv 3) (pa_cons (pe_op op_mod (pe_op op_fdivB (pv 2) pe_int) (pe_op op_powB pe_int pe_int)) pa_nil)))) (pa_cons (pit 0 1) pa_nil)))))
        pss_nil)
      (pss_cons (ps_if (pt_cmpR op_lt (pv 3) pe_int (nomark _))
        (pss_one (ps_ret (pe_tup (pa_cons (pit 0 0) (pa_cons (pe_cal cA hr rfl pass0 (pa_cons (pit 0 1) (pa_cons (pv 1) (pa_cons (pe_op op_sub (pv 3) pe_int) pa_nil)))) pa_nil)))))
        pss_nil)
      (pss_one (ps_ret (pe_ix ix_list (pe_lst (pa_cons (pe_lst (pa_cons (pit 0 0) (pa_cons (pit 0 1) pa_nil))) (pa_cons (pe_tup (pa_cons (pit 0 0) pa_nil)) (pa_cons (pe_op op_catT (pv 0) (pe_tup (pa_cons (pe_tup pa_nil) pa_nil))) (pa_cons pe_non pa_nil))))) (pe_op op_sub (pv 3) pe_int) (fun _ _ => rfl))))))), ?_⟩
    have hp : SqT K H p [.ref r, .ref q] := SqT.of bn.hp
    have e25 := emod_in n (m := 25) (by decide)
    refine ⟨_, rfl, _, _, rfl, rfl, (by show (0 : Int) < 25; decide), ?_⟩
    refine ⟨_, rfl, _, _, rfl, rfl, _, rfl, ite2 (fun hc => ?_) (fun hc => ?_)⟩
    · have w10 : n % 25 < 10 := of_decide_eq_true hc
      have e6 := emod_in (n / 25) (m := T60) (by decide +kernel)
      refine ⟨p, _, _, rfl, hp, rfl, _, rfl, _, rfl, _, _, rfl, rfl, ⟨by decide, b9⟩, _, _, rfl, rfl, ⟨by decide, by decide, bk⟩, _, _, rfl, rfl, (by rw [e60]; show (0 : Int) < T60; decide +kernel), ?_⟩
      rw [e60]
      refine ⟨r, rs, _, _, rfl, bn.hr, bn.rm, bn.l1, bn.l16, e25.1, by omega, e6.1, (bt_lt 210 e6.1 e6.2 (by decide +kernel)).mono (by decide), fun v H1 s1 rv => ?_⟩
      refine ⟨p, _, _, rfl, s1.tup hp, rfl, (by show 2 ≤ sizeLine; decide), fun z nz => ?_⟩
      have tz := Same.upd (o := .tup [v, .ref q]) nz
      exact k _ _ (s1.trans tz) (.two (b1 := false) (b2 := true) (SqT.of upd_same) (rv.keep tz) (((bn.keep s1).keep tz).pairs))
    have g10 : ¬ n % 25 < 10 := fun z => hc (decide_eq_true z)
    refine ⟨_, rfl, _, _, rfl, rfl, _, rfl, ite2 (fun hc => ?_) (fun hc => ?_)⟩
    · have w21 : n % 25 < 21 := of_decide_eq_true hc
      refine ⟨p, _, _, rfl, hp, rfl, p, _, _, rfl, hp, rfl, _, rfl, _, rfl, _, _, rfl, rfl, ?_⟩
      refine ⟨q, us, ps, a, ws, _, rfl, bn.hq, bn.pt, bn.g, ha, six0, by omega, by omega, fun v H1 s1 pv' => ⟨(by show 2 ≤ sizeLine; decide), fun z nz => ?_⟩⟩
      have tz := Same.upd (o := .tup [.ref r, v]) nz
      exact k _ _ (s1.trans tz) (.two (b1 := true) (b2 := false) (SqT.of upd_same) (((bn.keep s1).keep tz).rooms) (pv'.keep tz))
    have g21 : ¬ n % 25 < 21 := fun z => hc (decide_eq_true z)
    refine ⟨p, _, _, rfl, hp, rfl, p, _, _, rfl, hp, rfl, (by show 2 ≤ sizeLine; decide), fun e1 n1 => ?_⟩
    have t1 := Same.upd (o := .lst [.ref r, .ref q]) n1
    refine ⟨p, _, _, rfl, t1.tup hp, rfl, (by show 1 ≤ sizeLine; decide), fun e2 n2 => ?_⟩
    have t2 := Same.upd (o := .tup [.ref r]) n2
    refine ⟨_, rfl, (by show 0 ≤ sizeLine; decide), fun g ng => ⟨(by show 1 ≤ sizeLine; decide), fun g2 ng2 => ?_⟩⟩
    have tg := Same.upd (o := .tup []) ng
    have tg2 := Same.upd (o := .tup [.ref g]) ng2
    have tt := ((t1.trans t2).trans tg).trans tg2
    refine ⟨p, g2, _, _, rfl, rfl, tt.tup hp, SqT.of upd_same, (fun e => by cases e), (by show 2 + 1 ≤ sizeLine; decide), (fun e => by cases e), fun _ e3 n3 => ?_⟩
    have t3 := Same.upd (o := .tup ([.ref r, .ref q] ++ [.ref g])) n3
    refine ⟨(by show 4 ≤ sizeLine; decide), fun l nl => ?_⟩
    have tl := Same.upd (o := .lst [.ref e1, .ref e2, .ref e3, .non]) nl
    obtain ⟨u, hu, bu⟩ := bench_pick (K := K) (e := n % 25 - 21) (by omega) (by omega) (tl _ _ (t3 _ _ (tg2 _ _ (tg _ _ (t2 _ _ upd_same))))) (tl _ _ (t3 _ _ (tg2 _ _ (tg _ _ upd_same)))) (tl _ _ upd_same)
    exact ⟨_, rfl, _, _, rfl, rfl, l, _, _, u, rfl, rfl, SqL.of upd_same, hu, k _ _ ((tt.trans t3).trans tl) bu⟩
end
end K31

namespace K31
open PySem PySem.Spec PyProof.Rows L2 GM TM
theorem if_key {A : Prop} {u : TS} {D : Ends} {σ : L2.St} {H : Hp} {b : Bool} (S : L2.St → Hp → Prop) (h1 : (∀ σ' H', S σ' H' → u D σ' H') → b = true → A) (h2 : ¬ b = true → S σ H) (h : ∀ σ' H', S σ' H' → u D σ' H') : if b = true then A else tNext { D with nx := u D } σ H := by
  by_cases e : b = true
  · rw [if_pos e]
    exact h1 h e
  · rw [if_neg e]
    exact h σ H (h2 e)
section
variable {P : Program} {w : World} {K : PySem.W.Frag} {mg : Str → Option Value} {base : Heap}
theorem scLaw : FnScope ["_law_script", "_law_wares_here", "_law_bench_here", "_law_k", "_law_number", "_law_found"] ["_law_script"] (defScope sLaw) := ⟨rfl, rfl, rfl, by decide +kernel, rfl, by decide +kernel, by decide +kernel⟩
theorem ok_law {f : Addr} {fd : FuncData} (F : Fun K "law" "law" sLaw f fd) (T : Txt mg) (cC : Cal P w K mg base CX0 4 "_law_cell_at" ["_law_script", "_law_k"] (spCell K)) (cM : Cal P w K mg base CX0 4 "_law_mixed" ["_law_cell", "_law_k"] spMixed) (cW : Cal P w K mg base CX0 4 "_law_wares" ["_law_cell"] spWares) (cB : Cal P w K mg base CX0 4 "_law_bench" ["_law_script", "_law_wares_here"] (spBench K))
    (cI : Cal P w K mg base CX0 4 "is_bench" ["thing"] (spIsBench K)) (cS : Cal P w K mg base CX0 4 "_law_spoiled" ["_law_bench_here", "_law_wares_here", "_law_number"] (spSpoiled K)) (cL : Cal P w K mg base CX0 4 "clean" ["bench"] (spClean K)) : FnOk P w K mg base CX0 5 f fd ["_law_script"] (spLaw K) := by
  refine F.ok scLaw (fun vs H Q E h => ?_) (fun cdv A outer s H vs Q E hr h => ?_)
  · obtain ⟨_, _, rfl, _⟩ := h
    rfl
  · obtain ⟨a, ns, rfl, hS, _, k⟩ := h
    refine ⟨_, (pss_cons (ps_set (i := 1) scLaw.nd rfl (Or.inl rfl) (pe_cal cW hr rfl pass0 (pa_cons (pe_cal cC hr rfl pass0 (pa_cons (pv 0) (pa_cons pe_int pa_nil))) pa_nil)))
      (pss_cons (ps_set (i := 2) scLaw.nd rfl (Or.inl rfl) (pe_cal cB hr rfl pass0 (pa_cons (pv 0) (pa_cons (pv 1) pa_nil))))
      (pss_cons (ps_if (pt_cmpR op_isnotB (pe_cal cI hr rfl pass0 (pa_cons (pv 2) pa_nil)) pe_bl (nomark _))
        (pss_one (ps_ret pe_bl))
        pss_nil)
      (pss_cons (ps_for PassesOwn.never rfl (pi_range2 rfl T.range (pa_cons pe_int (pa_cons (pe_callB (call_max2 rfl) rfl T.max' boot_max (pa_cons pe_int (pa_cons (pe_callB (call_min2 rfl) rfl T.min' boot_min (pa_cons (pe_callB call_len_seq rfl T.len PySem.boot_len (pa_cons (pv 0) pa_nil)) (pa_cons pe_int pa_nil))) pa_nil))) pa_nil))) (pg_name (i := 3) scLaw.nd rfl (Or.inl rfl))
        (pss_cons (ps_set (i := 4) scLaw.nd rfl (Or.inl rfl) (pe_cal cM hr rfl pass0 (pa_cons (pe_cal cC hr rfl pass0 (pa_cons (pv 0) (pa_cons (pv 3) pa_nil))) (pa_cons (pv 3) pa_nil))))
        (pss_cons (ps_if (pt_cmpR op_eq (pe_op op_mod (pe_cal cC hr rfl pass0 (pa_cons (pv 0) (pa_cons pe_int pa_nil))) pe_int) pe_int (nomark _))
          (pss_one (ps_set (i := 4) scLaw.nd rfl (Or.inl rfl) (pe_callB call_abs rfl T.abs' bt_abs (pa_cons (pe_cal cC hr rfl pass0 (pa_cons (pv 0) (pa_cons (pv 3) pa_nil))) pa_nil))))
          pss_nil)
        (pss_one (ps_if (pt_cmpR op_isnotB (pe_cal cI hr rfl pass0 (pa_cons (pe_cal cS hr rfl pass0 (pa_cons (pv 2) (pa_cons (pv 1) (pa_cons (pv 4) pa_nil)))) pa_nil)) pe_bl (nomark _))
          (pss_one (ps_ret pe_bl))
          pss_nil)))))
      (pss_cons (ps_set (i := 5) scLaw.nd rfl (Or.inl rfl) (pe_cal cL hr rfl pass0 (pa_cons (pv 2) pa_nil)))
      (pss_cons (ps_if (PW.pt (pw_or (pt_not (pt_val (pe_callB call_isi rfl T.isi boot_isinstance (pa_cons (pv 5) (pa_cons (pe_bltn (v := .ty "list") rfl T.list' bt_list rfl) pa_nil))))) (pw_or1 (pt_cmpR (op_neDL hr.units) (pv 5) (pe_op op_rep (pe_lst (pa_cons (pe_tup (pa_cons (pe_tup pa_nil) (pa_cons (pe_tup pa_nil) pa_nil))) pa_nil)) (pe_callB call_len_seq rfl T.len PySem.boot_len (pa_cons (pit 2 0) pa_nil))) (nomark _)))))
        (pss_one (ps_ret pe_bl))
        pss_nil)
      (pss_cons (ps_expr (pe_bm0 PySem.F.plainAttrs_list PySem.F.slot_list_clear PySem.F.type_list_clear mt_clear (pv 5)))
      (pss_one (ps_ret (pe_cmpR (op_eqDL hr.units) (pe_cal cL hr rfl pass0 (pa_cons (pv 2) pa_nil)) (pe_op op_rep (pe_lst (pa_cons (pe_tup (pa_cons (pe_tup pa_nil) (pa_cons (pe_tup pa_nil) pa_nil))) pa_nil)) (pe_callB call_len_seq rfl T.len PySem.boot_len (pa_cons (pit 2 0) pa_nil))) (nomark _))))))))))), ?_⟩
    refine ⟨_, rfl, a, ns, 0, rfl, hS, by decide, fun c0 => ⟨c0, rfl, fun ws wa H1 wl nd wr s1 hw0 hw => ?_⟩⟩
    have six0 : Six0 ws := ⟨wl, nd, wr⟩
    have hS1 := s1.seq hS
    refine ⟨_, rfl, _, rfl, a, ns, wa, ws, rfl, hS1, SqL.of hw, six0, fun p r q rs us ps H2 s2 bn => ?_⟩
    have hS2 := s2.seq hS1
    have hw2 := s2 _ _ hw
    refine ⟨_, rfl, .ref p, true, rfl, bn.bench, fun H3 s3 => ⟨true, true, rfl, rfl, _, rfl, iteF ?_⟩⟩
    have hS3 := s3.seq hS2
    have hw3 := s3 _ _ hw2
    have bn3 := bn.keep s3
    refine ⟨_, rfl, a, _, rfl, .inl hS3, _, _, rfl, _, _, rfl, _, _, rfl, ?_, ?_⟩
    · split <;> split <;> omega
    refine for_range (fun i σ H' => ∃ (v3 v4 : Option V), σ = [some (.ref a), some (.ref wa), some (.ref p), v3, v4, none] ∧ Same H3 H') ⟨none, none, rfl, Same.refl _⟩ ?_ ?_
    · rintro i σ H4 hi ⟨v3, v4, rfl, s4⟩
      have hi63 : i < 63 := by
        revert hi
        split <;> split <;> omega
      have hS4 := s4.seq hS3
      refine ⟨_, rfl, _, rfl, a, ns, _, rfl, hS4, by omega, fun c1 => ⟨_, rfl, c1, _, rfl, by omega, by omega, fun n n0 nl => ?_⟩⟩
      refine ⟨_, rfl, a, ns, 0, rfl, hS4, by decide, fun c2 => ⟨_, _, rfl, rfl, (by show (0 : Int) < 2; decide), rfl, _, rfl, ?_⟩⟩
      refine if_key (fun σ' H' => ∃ m : Int, 0 ≤ m ∧ σ' = [some (.ref a), some (.ref wa), some (.ref p), some (.int (3 + i)), some (.int m), none] ∧ H' = H4) (fun key _ => ?_) (fun _ => ⟨n, n0, rfl, rfl⟩) ?_
      · refine ⟨_, rfl, _, rfl, a, ns, _, rfl, hS4, by omega, fun c3 => ⟨c3, rfl, ?_⟩⟩
        exact key _ _ ⟨_, abs_nonneg c3, rfl, rfl⟩
      · rintro _ H5 ⟨m, m0, rfl, rfl⟩
        refine ⟨_, rfl, _, rfl, _, rfl, p, r, q, rs, us, ps, wa, ws, m, rfl, bn3.keep s4, SqL.of (s4 _ _ hw3), six0, m0, fun v H6 s6 bv => ?_⟩
        refine ⟨v, false, rfl, bv, fun H7 s7 => ⟨false, false, rfl, rfl, _, rfl, iteF ?_⟩⟩
        exact ⟨_, _, rfl, (s4.trans s6).trans s7⟩
    · rintro σ H4 ⟨v3, v4, rfl, s4⟩
      have bn4 := bn3.keep s4
      have hp4 : SqT K H4 p [.ref r, .ref q] := SqT.of bn4.hp
      have l63 : ((rs.length : Nat) : Int) < 2 ^ 63 := by have := bn.l16; omega
      have tn : ((rs.length : Nat) : Int).toNat = rs.length := by omega
      refine ⟨_, rfl, p, r, .ref q, rs, rfl, hp4, SqT.of bn4.hr, bn.l16, fun d ys H5 s5 hd0 hd dl => ?_⟩
      have bn5 := bn4.keep s5
      refine ⟨_, rfl, _, "list", true, rfl, .lst_list (SqL.of hd), _, rfl, iteF ?_⟩
      refine ⟨_, rfl, (by show 0 ≤ sizeLine; decide), fun x1 n1 => ⟨(by show 0 ≤ sizeLine; decide), fun x2 n2 => ⟨(by show 2 ≤ sizeLine; decide), fun x3 n3 => ⟨(by show 1 ≤ sizeLine; decide), fun l nl => ?_⟩⟩⟩⟩
      have t1 := Same.upd (o := .tup []) n1
      have t2 := Same.upd (o := .tup []) n2
      have t3 := Same.upd (o := .tup [.ref x1, .ref x2]) n3
      have tl := Same.upd (o := .lst [.ref x3]) nl
      have tt := ((t1.trans t2).trans t3).trans tl
      have bn6 := bn5.keep tt
      have dv : Dv K (upd (upd (upd (upd H5 x1 (.tup [])) x2 (.tup [])) x3 (.tup [.ref x1, .ref x2])) l (.lst [.ref x3])) 40 (.ref x3) EE := (Dv.two (n := 1) (.of (tl _ _ upd_same)) (Dv.tup (n := 0) (.of (tl _ _ (t3 _ _ (t2 _ _ upd_same)))) .nil) (Dv.tup (n := 0) (.of (tl _ _ (t3 _ _ upd_same))) .nil)).mono (by decide)
      refine ⟨p, _, _, rfl, SqT.of bn6.hp, rfl, r, rs, rfl, .inr (SqT.of bn6.hr), l, _, _, rfl, rfl, upd_same, by omega, l63, (by rw [tn, List.length_singleton, Nat.one_mul]; exact sz1000 (by have := bn.l16; omega)), fun g ng => ?_⟩
      rw [tn, rep_one]
      have tg := Same.upd (o := .lst (List.replicate rs.length (.ref x3))) ng
      have hd6 := tg _ _ (tt _ _ hd)
      refine ⟨d, g, _, _, _, rfl, rfl, SqL.of hd6, SqL.of upd_same, dl.keep (tt.trans tg).tk, dl_rep (dv.keep tg.tk) _, _, rfl, iteF ?_⟩
      refine ⟨_, rfl, .inl ⟨rfl, _, SqL.of hd6⟩, d, _, rfl, rfl, hd6, ?_⟩
      have bn7 := bn6.keep tg
      have bk7 : Tk (upd (upd (upd (upd (upd H5 x1 (.tup [])) x2 (.tup [])) x3 (.tup [.ref x1, .ref x2])) l (.lst [.ref x3])) g (.lst (List.replicate rs.length (.ref x3)))) _ := Tk.lst (o := .lst []) hd6
      have hp7 := bk7 _ _ bn7.hp
      have hr7 := bk7 _ _ bn7.hr
      clear bn6 bn7 hd6 dv dl tg tt tl t3 t2 t1
      generalize upd (upd (upd (upd (upd (upd H5 x1 (.tup [])) x2 (.tup [])) x3 (.tup [.ref x1, .ref x2])) l (.lst [.ref x3])) g (.lst (List.replicate rs.length (.ref x3)))) d (.lst []) = H8 at *
      refine ⟨_, rfl, p, r, .ref q, rs, rfl, SqT.of hp7, SqT.of hr7, bn.l16, fun d' ys' H9 s9 hd0' hd' dl' => ?_⟩
      refine ⟨(by show 0 ≤ sizeLine; decide), fun x1 n1 => ⟨(by show 0 ≤ sizeLine; decide), fun x2 n2 => ⟨(by show 2 ≤ sizeLine; decide), fun x3 n3 => ⟨(by show 1 ≤ sizeLine; decide), fun l nl => ?_⟩⟩⟩⟩
      have t1 := Same.upd (o := .tup []) n1
      have t2 := Same.upd (o := .tup []) n2
      have t3 := Same.upd (o := .tup [.ref x1, .ref x2]) n3
      have tl := Same.upd (o := .lst [.ref x3]) nl
      have tt := ((t1.trans t2).trans t3).trans tl
      have dv : Dv K (upd (upd (upd (upd H9 x1 (.tup [])) x2 (.tup [])) x3 (.tup [.ref x1, .ref x2])) l (.lst [.ref x3])) 40 (.ref x3) EE := (Dv.two (n := 1) (.of (tl _ _ upd_same)) (Dv.tup (n := 0) (.of (tl _ _ (t3 _ _ (t2 _ _ upd_same)))) .nil) (Dv.tup (n := 0) (.of (tl _ _ (t3 _ _ upd_same))) .nil)).mono (by decide)
      refine ⟨p, _, _, rfl, SqT.of (tt _ _ (s9 _ _ hp7)), rfl, r, rs, rfl, .inr (SqT.of (tt _ _ (s9 _ _ hr7))), l, _, _, rfl, rfl, upd_same, by omega, l63, (by rw [tn, List.length_singleton, Nat.one_mul]; exact sz1000 (by have := bn.l16; omega)), fun g ng => ?_⟩
      rw [tn, rep_one]
      have tg := Same.upd (o := .lst (List.replicate rs.length (.ref x3))) ng
      exact ⟨d', g, _, _, _, rfl, rfl, SqL.of (tg _ _ (tt _ _ hd')), SqL.of upd_same, dl'.keep (tt.trans tg).tk, dl_rep (dv.keep tg.tk) _, k _⟩
end
end K31

namespace K31
open PySem PySem.Spec PyProof.Rows L2 GM TM
/-- a def of the top, by its name -/
structure Dn (K : PySem.W.Frag) (x : Str) (st : Stmt) (ps : List Str) : Prop where
  ex : ∃ (f : Addr) (fd : FuncData), PySem.W.nsIn K mainGlobals x = some (some (.ref f)) ∧ Fun K x x st f fd ∧ Binds K fd ps []
theorem Dn.mk' {K : PySem.W.Frag} {x : Str} {st : Stmt} {ps : List Str} {f : Addr} {oc : Value} {od an : Option Addr} {osl : Array (Option Value)} {kV doc pm cdv ct : Value} (a : PySem.W.nsIn K mainGlobals x = some (some (.ref f)))
    (l : K.lookup f = some ⟨oc, od, .func (PySem.W.fnOf x x (defArgs st) (defBody st) (defScope st) .none kV doc pm an cdv ct), osl⟩) (c : PySem.W.codeIn K cdv x = true) (k : PySem.W.keepIn K (.ref f) = true)
    (hb : ∀ (kV doc pm : Value) (an : Option Addr) (cdv ct : Value) (us : List Value), us.length = ps.length → bindArgs (PySem.W.fnOf x x (defArgs st) (defBody st) (defScope st) .none kV doc pm an cdv ct) ⟨us, []⟩ = pure (ps.zip us)) : Dn K x st ps :=
  ⟨f, _, a, fun_mk (st := st) l c k, (fun_mk (st := st) l c k).binds hb⟩
theorem Dn.cal {P : Program} {w : World} {K : PySem.W.Frag} {mg : Str → Option Value} {base h : Heap} {CX : CXT} {k : Nat} {x : Str} {st : Stmt} {ps : List Str} {sp : Sp} (D : Dn K x st ps) (X : K.In h) (G : h.Ns mainGlobals mg)
    (ok : ∀ {f : Addr} {fd : FuncData}, Fun K x x st f fd → FnOk P w K mg base CX k f fd ps sp) : Cal P w K mg base CX k x ps sp := by
  obtain ⟨f, fd, a, F, b⟩ := D.ex
  exact ⟨f, fd, PySem.W.mg_of X G a, F.kp, b, ok F⟩

structure NouK (K : PySem.W.Frag) (aN : Addr) : Prop where
  m : PySem.W.nsIn K mainGlobals "NOUGHT" = some (some (.ref aN))
  s : ∀ H : Hp, SqT K H aN [.int 0, .int 1]
theorem NouK.mk' {K : PySem.W.Frag} {aN : Addr} {od : Option Addr} {t0 t1 : Tok} {n : Nat} {sl : Array (Option Value)} (a : PySem.W.nsIn K mainGlobals "NOUGHT" = some (some (.ref aN)))
    (l : K.lookup aN = some ⟨.type "tuple", od, .seq #[.int 0 t0, .int 1 t1] n, sl⟩) : ∃ aN : Addr, NouK K aN :=
  ⟨aN, a, fun _ => .inr ⟨_, _, _, l, rfl, rfl, (by show 2 ≤ sizeLine; decide), .cons ⟨_, rfl⟩ (.cons ⟨_, rfl⟩ .nil)⟩⟩
theorem mst_mk {K : PySem.W.Frag} {tk : Tok} {x : Str} {n : Int} (h : PySem.W.nsIn K mainGlobals x = some (some (.int n tk))) : ∃ tk : Tok, PySem.W.nsIn K mainGlobals x = some (some (.int n tk)) := ⟨_, h⟩
theorem fgs_mk {K : PySem.W.Frag} {tk : Tok} {x y z : Str} (h : PySem.W.nsIn K mainGlobals z = some (some (.str x tk))) (e : x = y) : ∃ tk : Tok, PySem.W.nsIn K mainGlobals z = some (some (.str y tk)) := ⟨_, e ▸ h⟩
structure AllD (K : PySem.W.Frag) : Prop where
  dIsWh : Dn K "is_whole_number" sIsWh ["thing"]
  dGcd : Dn K "common_divisor" sGcd ["one", "other"]
  dIsAm : Dn K "is_amount" sIsAm ["thing"]
  dIsWare : Dn K "is_ware" sIsWare ["thing"]
  dIsBench : Dn K "is_bench" sIsBench ["thing"]
  dRooms : Dn K "are_rooms" sRooms ["thing"]
  dPairs : Dn K "are_pairs" sPairs ["thing"]
  dRising : Dn K "is_rising" sRising ["some"]
  dIsPair : Dn K "is_pair" sIsPair ["thing"]
  dClean : Dn K "clean" sClean ["bench"]
  dCell : Dn K "_law_cell_at" sCell ["_law_script", "_law_k"]
  dMixed : Dn K "_law_mixed" sMixed ["_law_cell", "_law_k"]
  dLowest : Dn K "_law_lowest" sLowest ["_law_top", "_law_bottom"]
  dDigit : Dn K "_law_digit" sDigit ["_law_left", "_law_many"]
  dNames : Dn K "_law_names" sNames ["_law_left"]
  dWares : Dn K "_law_wares" sWares ["_law_cell"]
  dMuch : Dn K "_law_much" sMuch ["_law_number"]
  dApart : Dn K "_law_apart" sApart ["_law_wares_here", "_law_cell", "_law_often"]
  dFree : Dn K "_law_free_bench" sFree ["_law_script", "_law_wares_here"]
  dBench : Dn K "_law_bench" sBench ["_law_script", "_law_wares_here"]
  dRsp : Dn K "_law_rooms_spoiled" sRsp ["_law_rooms", "_law_way", "_law_far"]
  dAsp : Dn K "_law_apart_spoiled" sAsp ["_law_apart_here", "_law_wares_here", "_law_way"]
  dSpoiled : Dn K "_law_spoiled" sSpoiled ["_law_bench_here", "_law_wares_here", "_law_number"]
  z0 : PySem.W.nsIn K mainGlobals "isinstance" = some none
  z1 : PySem.W.nsIn K mainGlobals "int" = some none
  z2 : PySem.W.nsIn K mainGlobals "bool" = some none
  z3 : PySem.W.nsIn K mainGlobals "tuple" = some none
  z4 : PySem.W.nsIn K mainGlobals "str" = some none
  z5 : PySem.W.nsIn K mainGlobals "len" = some none
  z6 : PySem.W.nsIn K mainGlobals "range" = some none
  z7 : PySem.W.nsIn K mainGlobals "min" = some none
  z8 : PySem.W.nsIn K mainGlobals "max" = some none
  z9 : PySem.W.nsIn K mainGlobals "abs" = some none
  z10 : PySem.W.nsIn K mainGlobals "list" = some none
  z11 : PySem.W.nsIn K mainGlobals "all" = some none
  z12 : PySem.W.nsIn K mainGlobals "sorted" = some none
  nou : ∃ aN : Addr, NouK K aN
  mM : ∃ t : Tok, PySem.W.nsIn K mainGlobals "MOST_LETTERS" = some (some (.int 8 t))
  mL : ∃ t : Tok, PySem.W.nsIn K mainGlobals "LETTERS" = some (some (.str LET t))
  mR : ∃ t : Tok, PySem.W.nsIn K mainGlobals "MOST_ROOMS" = some (some (.int 16 t))
  mP : ∃ t : Tok, PySem.W.nsIn K mainGlobals "MOST_PAIRS" = some (some (.int 30 t))
theorem AllD.txt {K : PySem.W.Frag} {mg : Str → Option Value} {h : Heap} (A : AllD K) (X : K.In h) (G : h.Ns mainGlobals mg) : Txt mg := ⟨PySem.W.mg_none_of X G A.z0, PySem.W.mg_none_of X G A.z1, PySem.W.mg_none_of X G A.z2, PySem.W.mg_none_of X G A.z3, PySem.W.mg_none_of X G A.z4, PySem.W.mg_none_of X G A.z5, PySem.W.mg_none_of X G A.z6, PySem.W.mg_none_of X G A.z7, PySem.W.mg_none_of X G A.z8, PySem.W.mg_none_of X G A.z9, PySem.W.mg_none_of X G A.z10, PySem.W.mg_none_of X G A.z11, PySem.W.mg_none_of X G A.z12⟩
theorem law_ok {P : Program} {w : World} {K : PySem.W.Frag} {mg : Str → Option Value} {base h : Heap} {f : Addr} {fd : FuncData} (X : K.In h) (G : h.Ns mainGlobals mg) (A : AllD K) (F : Fun K "law" "law" sLaw f fd) : FnOk P w K mg base CX0 5 f fd ["_law_script"] (spLaw K) := by
  have T : Txt mg := A.txt X G
  obtain ⟨aN, NK⟩ := A.nou
  have mN := PySem.W.mg_of X G NK.m
  obtain ⟨t1, h1⟩ := A.mM
  have mM := PySem.W.mg_of X G h1
  obtain ⟨t2, h2⟩ := A.mL
  have mL := PySem.W.mg_of X G h2
  obtain ⟨t3, h3⟩ := A.mR
  have mR := PySem.W.mg_of X G h3
  obtain ⟨t4, h4⟩ := A.mP
  have mP := PySem.W.mg_of X G h4
  have cWh : Cal P w K mg base CX0 1 "is_whole_number" ["thing"] spWhN := A.dIsWh.cal X G fun F => ok_iswh F T
  have cG : Cal P w K mg base CX0 1 "common_divisor" ["one", "other"] spGcd := A.dGcd.cal X G ok_gcd
  have cAm : Cal P w K mg base CX0 2 "is_amount" ["thing"] (spIsAm K) := A.dIsAm.cal X G fun F => ok_isam F T cWh cG
  have cWr : Cal P w K mg base CX0 1 "is_ware" ["thing"] (spIsWare K) := A.dIsWare.cal X G fun F => ok_isware F T mM mL
  have cRi : Cal P w K mg base CX0 1 "is_rising" ["some"] (spRis K) := A.dRising.cal X G fun F => ok_rising F T
  have cPr : Cal P w K mg base CX0 2 "is_pair" ["thing"] (spIsPair K) := A.dIsPair.cal X G fun F => ok_ispair F T cWr cRi
  have cRo : Cal P w K mg base CX0 3 "are_rooms" ["thing"] (spRooms K) := A.dRooms.cal X G fun F => ok_rooms F T mR mN NK.s cAm
  have cPs : Cal P w K mg base CX0 3 "are_pairs" ["thing"] (spPairs K) := A.dPairs.cal X G fun F => ok_pairs F T mP cPr (cRi.mono (by decide))
  have cI : Cal P w K mg base CX0 4 "is_bench" ["thing"] (spIsBench K) := A.dIsBench.cal X G fun F => ok_isbench F T cRo cPs
  have cL : Cal P w K mg base CX0 1 "clean" ["bench"] (spClean K) := A.dClean.cal X G fun F => ok_clean F
  have cC : Cal P w K mg base CX0 1 "_law_cell_at" ["_law_script", "_law_k"] (spCell K) := A.dCell.cal X G fun F => ok_cell F T
  have cX : Cal P w K mg base CX0 1 "_law_mixed" ["_law_cell", "_law_k"] spMixed := A.dMixed.cal X G ok_mixed
  have cLo : Cal P w K mg base CX0 1 "_law_lowest" ["_law_top", "_law_bottom"] spLowest := A.dLowest.cal X G ok_lowest
  have cDi : Cal P w K mg base CX0 1 "_law_digit" ["_law_left", "_law_many"] spDigit := A.dDigit.cal X G ok_digit
  have cNa : Cal P w K mg base CX0 2 "_law_names" ["_law_left"] spNames := A.dNames.cal X G fun F => ok_names F T cDi
  have cWa : Cal P w K mg base CX0 3 "_law_wares" ["_law_cell"] spWares := A.dWares.cal X G fun F => ok_wares F T cNa (cX.mono (by decide))
  have cMu : Cal P w K mg base CX0 2 "_law_much" ["_law_number"] spMuch := A.dMuch.cal X G fun F => ok_much F cLo
  have cAp : Cal P w K mg base CX0 2 "_law_apart" ["_law_wares_here", "_law_cell", "_law_often"] (spApart K) := A.dApart.cal X G fun F => ok_apart F T cX
  have cFr : Cal P w K mg base CX0 2 "_law_free_bench" ["_law_script", "_law_wares_here"] (spBench K) := A.dFree.cal X G fun F => ok_free F T cC cDi cLo
  have cBe : Cal P w K mg base CX0 3 "_law_bench" ["_law_script", "_law_wares_here"] (spBench K) := A.dBench.cal X G fun F => ok_bench F T (cC.mono (by decide)) cFr (cX.mono (by decide)) cMu cAp
  have cRs : Cal P w K mg base CX0 1 "_law_rooms_spoiled" ["_law_rooms", "_law_way", "_law_far"] (spRsp K) := A.dRsp.cal X G fun F => ok_rsp F T
  have cAs : Cal P w K mg base CX0 1 "_law_apart_spoiled" ["_law_apart_here", "_law_wares_here", "_law_way"] (spAsp K) := A.dAsp.cal X G fun F => ok_asp F T
  have cSp : Cal P w K mg base CX0 2 "_law_spoiled" ["_law_bench_here", "_law_wares_here", "_law_number"] (spSpoiled K) := A.dSpoiled.cal X G fun F => ok_spoiled F cRs cAs
  exact ok_law F T (cC.mono (by decide)) (cX.mono (by decide)) (cWa.mono (by decide)) (cBe.mono (by decide)) cI (cSp.mono (by decide)) (cL.mono (by decide))
theorem all_mk {l : PySem.W.OpenLaw} {w : World} {K : PySem.W.Frag} {h : Heap} {mg : Str → Option Value} {fa f4 : Addr} (X : K.In h) (G : h.Ns mainGlobals mg) (hfa : mg "law" = some (.ref fa)) (A : AllD K)
    {od4 an4 : Option Addr} {sl4 : Array (Option Value)} {oc4 kV4 dc4 pm4 cd4 ct4 : Value}
    (a4 : PySem.W.nsIn K mainGlobals "law" = some (some (.ref f4))) (l4 : K.lookup f4 = some ⟨oc4, od4, .func (PySem.W.fnOf "law" "law" (defArgs sLaw) (defBody sLaw) (defScope sLaw) .none kV4 dc4 pm4 an4 cd4 ct4), sl4⟩) (c4 : PySem.W.codeIn K cd4 "law" = true) (k4 : PySem.W.keepIn K (.ref f4) = true) :
    ∃ fd : FuncData, (∀ (s : Shared) (v : Value), BindsTo s fd ⟨[v], []⟩ [("_law_script", v)]) ∧ ∀ base : Heap, K.In base → base.Ns mainGlobals mg → FnOk l.prog w K mg base CX0 5 fa fd ["_law_script"] (spLaw K) := by
  have e := hfa.symm.trans (PySem.W.mg_of X G a4)
  cases e
  exact ⟨PySem.W.fnOf "law" "law" (defArgs sLaw) (defBody sLaw) (defScope sLaw) .none kV4 dc4 pm4 an4 cd4 ct4, fun s v => .of_eq rfl, fun base _ _ => law_ok X G A (fun_mk (st := sLaw) l4 c4 k4)⟩
theorem walk {l : PySem.W.OpenLaw} {q : Program} {loose : List Str} {XP : (Str → Option Value) → Heap → Prop} {YP : World → Heap → Prop} {d : DefRec} {K : Params → PySem.W.Frag} (hn : l.most = some 63) (hdf : d.params.defaults = [])
    (hY : ∀ (w : World) (h : Heap), YP w h → (K w.params).In h)
    (F : ∀ (w : World) (mg : Str → Option Value) (fa : Addr) (h : Heap), (K w.params).In h → h.Ns mainGlobals mg → mg d.name = some (.ref fa) →
      ∃ fd : FuncData, (∀ (s : Shared) (u : Value), BindsTo s fd ⟨[u], []⟩ [("_law_script", u)]) ∧ ∀ base : Heap, (K w.params).In base → base.Ns mainGlobals mg → FnOk l.prog w (K w.params) mg base CX0 5 fa fd ["_law_script"] (spLaw (K w.params))) :
    PySem.W.WalkO q loose XP YP l.row.toRowW d [] (fun f vs => PySem.call f vs) :=
  L2.walk_of (n := 63) (k := 5) (x := "_law_script") (CX := fun _ => CX0) (sp := fun w => spLaw (K w.params)) hn (by decide) hdf ⟨rfl, by decide, by decide⟩ hY F (fun _ _ a ns hl _ hS => ⟨a, ns, rfl, hS, hl, fun _ => rfl⟩) fun _ _ _ _ _ z => z
end K31
open PySem PySem.W PyProof.Rows
set_option maxRecDepth 100000 in
set_option maxHeartbeats 0 in
theorem PySem.Challenge.cw_phialhouse_k31_what_is_a_bench_holds : PySem.Challenge.rw_phialhouse_k31_what_is_a_bench.Holds := by
  w_on; o_law; k_head; (case hw => w_witness2)
  k_fill
  refine K31.walk (l := PySem.Challenge.rw_phialhouse_k31_what_is_a_bench) rfl rfl (fun w h Y => PySem.W.kIn_of Y) ?F
  case F =>
    intro w mg fa h KX G hmg
    have dIsWh : K31.Dn (L2.KOf KX) "is_whole_number" K31.sIsWh ["thing"] := by
      dsimp only [L2.KOf]
      refine' K31.Dn.mk' ?a ?l ?c ?k ?b
      (case a => k_is); (case l => k_is); (case c => k_is); (case k => k_is)
      (case b => exact fun _ _ _ _ _ _ us hl => match us, hl with | [_], _ => rfl)
    have dGcd : K31.Dn (L2.KOf KX) "common_divisor" K31.sGcd ["one", "other"] := by
      dsimp only [L2.KOf]
      refine' K31.Dn.mk' ?a ?l ?c ?k ?b
      (case a => k_is); (case l => k_is); (case c => k_is); (case k => k_is)
      (case b => exact fun _ _ _ _ _ _ us hl => match us, hl with | [_, _], _ => rfl)
    have dIsAm : K31.Dn (L2.KOf KX) "is_amount" K31.sIsAm ["thing"] := by
      dsimp only [L2.KOf]
      refine' K31.Dn.mk' ?a ?l ?c ?k ?b
      (case a => k_is); (case l => k_is); (case c => k_is); (case k => k_is)
      (case b => exact fun _ _ _ _ _ _ us hl => match us, hl with | [_], _ => rfl)
    have dIsWare : K31.Dn (L2.KOf KX) "is_ware" K31.sIsWare ["thing"] := by
      dsimp only [L2.KOf]
      refine' K31.Dn.mk' ?a ?l ?c ?k ?b
      (case a => k_is); (case l => k_is); (case c => k_is); (case k => k_is)
      (case b => exact fun _ _ _ _ _ _ us hl => match us, hl with | [_], _ => rfl)
    have dIsBench : K31.Dn (L2.KOf KX) "is_bench" K31.sIsBench ["thing"] := by
      dsimp only [L2.KOf]
      refine' K31.Dn.mk' ?a ?l ?c ?k ?b
      (case a => k_is); (case l => k_is); (case c => k_is); (case k => k_is)
      (case b => exact fun _ _ _ _ _ _ us hl => match us, hl with | [_], _ => rfl)
    have dRooms : K31.Dn (L2.KOf KX) "are_rooms" K31.sRooms ["thing"] := by
      dsimp only [L2.KOf]
      refine' K31.Dn.mk' ?a ?l ?c ?k ?b
      (case a => k_is); (case l => k_is); (case c => k_is); (case k => k_is)
      (case b => exact fun _ _ _ _ _ _ us hl => match us, hl with | [_], _ => rfl)
    have dPairs : K31.Dn (L2.KOf KX) "are_pairs" K31.sPairs ["thing"] := by
      dsimp only [L2.KOf]
      refine' K31.Dn.mk' ?a ?l ?c ?k ?b
      (case a => k_is); (case l => k_is); (case c => k_is); (case k => k_is)
      (case b => exact fun _ _ _ _ _ _ us hl => match us, hl with | [_], _ => rfl)
    have dRising : K31.Dn (L2.KOf KX) "is_rising" K31.sRising ["some"] := by
      dsimp only [L2.KOf]
      refine' K31.Dn.mk' ?a ?l ?c ?k ?b
      (case a => k_is); (case l => k_is); (case c => k_is); (case k => k_is)
      (case b => exact fun _ _ _ _ _ _ us hl => match us, hl with | [_], _ => rfl)
    have dIsPair : K31.Dn (L2.KOf KX) "is_pair" K31.sIsPair ["thing"] := by
      dsimp only [L2.KOf]
      refine' K31.Dn.mk' ?a ?l ?c ?k ?b
      (case a => k_is); (case l => k_is); (case c => k_is); (case k => k_is)
      (case b => exact fun _ _ _ _ _ _ us hl => match us, hl with | [_], _ => rfl)
    have dClean : K31.Dn (L2.KOf KX) "clean" K31.sClean ["bench"] := by
      dsimp only [L2.KOf]
      refine' K31.Dn.mk' ?a ?l ?c ?k ?b
      (case a => k_is); (case l => k_is); (case c => k_is); (case k => k_is)
      (case b => exact fun _ _ _ _ _ _ us hl => match us, hl with | [_], _ => rfl)
    have dCell : K31.Dn (L2.KOf KX) "_law_cell_at" K31.sCell ["_law_script", "_law_k"] := by
      dsimp only [L2.KOf]
      refine' K31.Dn.mk' ?a ?l ?c ?k ?b
      (case a => k_is); (case l => k_is); (case c => k_is); (case k => k_is)
      (case b => exact fun _ _ _ _ _ _ us hl => match us, hl with | [_, _], _ => rfl)
    have dMixed : K31.Dn (L2.KOf KX) "_law_mixed" K31.sMixed ["_law_cell", "_law_k"] := by
      dsimp only [L2.KOf]
      refine' K31.Dn.mk' ?a ?l ?c ?k ?b
      (case a => k_is); (case l => k_is); (case c => k_is); (case k => k_is)
      (case b => exact fun _ _ _ _ _ _ us hl => match us, hl with | [_, _], _ => rfl)
    have dLowest : K31.Dn (L2.KOf KX) "_law_lowest" K31.sLowest ["_law_top", "_law_bottom"] := by
      dsimp only [L2.KOf]
      refine' K31.Dn.mk' ?a ?l ?c ?k ?b
      (case a => k_is); (case l => k_is); (case c => k_is); (case k => k_is)
      (case b => exact fun _ _ _ _ _ _ us hl => match us, hl with | [_, _], _ => rfl)
    have dDigit : K31.Dn (L2.KOf KX) "_law_digit" K31.sDigit ["_law_left", "_law_many"] := by
      dsimp only [L2.KOf]
      refine' K31.Dn.mk' ?a ?l ?c ?k ?b
      (case a => k_is); (case l => k_is); (case c => k_is); (case k => k_is)
      (case b => exact fun _ _ _ _ _ _ us hl => match us, hl with | [_, _], _ => rfl)
    have dNames : K31.Dn (L2.KOf KX) "_law_names" K31.sNames ["_law_left"] := by
      dsimp only [L2.KOf]
      refine' K31.Dn.mk' ?a ?l ?c ?k ?b
      (case a => k_is); (case l => k_is); (case c => k_is); (case k => k_is)
      (case b => exact fun _ _ _ _ _ _ us hl => match us, hl with | [_], _ => rfl)
    have dWares : K31.Dn (L2.KOf KX) "_law_wares" K31.sWares ["_law_cell"] := by
      dsimp only [L2.KOf]
      refine' K31.Dn.mk' ?a ?l ?c ?k ?b
      (case a => k_is); (case l => k_is); (case c => k_is); (case k => k_is)
      (case b => exact fun _ _ _ _ _ _ us hl => match us, hl with | [_], _ => rfl)
    have dMuch : K31.Dn (L2.KOf KX) "_law_much" K31.sMuch ["_law_number"] := by
      dsimp only [L2.KOf]
      refine' K31.Dn.mk' ?a ?l ?c ?k ?b
      (case a => k_is); (case l => k_is); (case c => k_is); (case k => k_is)
      (case b => exact fun _ _ _ _ _ _ us hl => match us, hl with | [_], _ => rfl)
    have dApart : K31.Dn (L2.KOf KX) "_law_apart" K31.sApart ["_law_wares_here", "_law_cell", "_law_often"] := by
      dsimp only [L2.KOf]
      refine' K31.Dn.mk' ?a ?l ?c ?k ?b
      (case a => k_is); (case l => k_is); (case c => k_is); (case k => k_is)
      (case b => exact fun _ _ _ _ _ _ us hl => match us, hl with | [_, _, _], _ => rfl)
    have dFree : K31.Dn (L2.KOf KX) "_law_free_bench" K31.sFree ["_law_script", "_law_wares_here"] := by
      dsimp only [L2.KOf]
      refine' K31.Dn.mk' ?a ?l ?c ?k ?b
      (case a => k_is); (case l => k_is); (case c => k_is); (case k => k_is)
      (case b => exact fun _ _ _ _ _ _ us hl => match us, hl with | [_, _], _ => rfl)
    have dBench : K31.Dn (L2.KOf KX) "_law_bench" K31.sBench ["_law_script", "_law_wares_here"] := by
      dsimp only [L2.KOf]
      refine' K31.Dn.mk' ?a ?l ?c ?k ?b
      (case a => k_is); (case l => k_is); (case c => k_is); (case k => k_is)
      (case b => exact fun _ _ _ _ _ _ us hl => match us, hl with | [_, _], _ => rfl)
    have dRsp : K31.Dn (L2.KOf KX) "_law_rooms_spoiled" K31.sRsp ["_law_rooms", "_law_way", "_law_far"] := by
      dsimp only [L2.KOf]
      refine' K31.Dn.mk' ?a ?l ?c ?k ?b
      (case a => k_is); (case l => k_is); (case c => k_is); (case k => k_is)
      (case b => exact fun _ _ _ _ _ _ us hl => match us, hl with | [_, _, _], _ => rfl)
    have dAsp : K31.Dn (L2.KOf KX) "_law_apart_spoiled" K31.sAsp ["_law_apart_here", "_law_wares_here", "_law_way"] := by
      dsimp only [L2.KOf]
      refine' K31.Dn.mk' ?a ?l ?c ?k ?b
      (case a => k_is); (case l => k_is); (case c => k_is); (case k => k_is)
      (case b => exact fun _ _ _ _ _ _ us hl => match us, hl with | [_, _, _], _ => rfl)
    have dSpoiled : K31.Dn (L2.KOf KX) "_law_spoiled" K31.sSpoiled ["_law_bench_here", "_law_wares_here", "_law_number"] := by
      dsimp only [L2.KOf]
      refine' K31.Dn.mk' ?a ?l ?c ?k ?b
      (case a => k_is); (case l => k_is); (case c => k_is); (case k => k_is)
      (case b => exact fun _ _ _ _ _ _ us hl => match us, hl with | [_, _, _], _ => rfl)
    have z0 : PySem.W.nsIn (L2.KOf KX) mainGlobals "isinstance" = some none := by
      dsimp only [L2.KOf]
      k_is
    have z1 : PySem.W.nsIn (L2.KOf KX) mainGlobals "int" = some none := by
      dsimp only [L2.KOf]
      k_is
    have z2 : PySem.W.nsIn (L2.KOf KX) mainGlobals "bool" = some none := by
      dsimp only [L2.KOf]
      k_is
    have z3 : PySem.W.nsIn (L2.KOf KX) mainGlobals "tuple" = some none := by
      dsimp only [L2.KOf]
      k_is
    have z4 : PySem.W.nsIn (L2.KOf KX) mainGlobals "str" = some none := by
      dsimp only [L2.KOf]
      k_is
    have z5 : PySem.W.nsIn (L2.KOf KX) mainGlobals "len" = some none := by
      dsimp only [L2.KOf]
      k_is
    have z6 : PySem.W.nsIn (L2.KOf KX) mainGlobals "range" = some none := by
      dsimp only [L2.KOf]
      k_is
    have z7 : PySem.W.nsIn (L2.KOf KX) mainGlobals "min" = some none := by
      dsimp only [L2.KOf]
      k_is
    have z8 : PySem.W.nsIn (L2.KOf KX) mainGlobals "max" = some none := by
      dsimp only [L2.KOf]
      k_is
    have z9 : PySem.W.nsIn (L2.KOf KX) mainGlobals "abs" = some none := by
      dsimp only [L2.KOf]
      k_is
    have z10 : PySem.W.nsIn (L2.KOf KX) mainGlobals "list" = some none := by
      dsimp only [L2.KOf]
      k_is
    have z11 : PySem.W.nsIn (L2.KOf KX) mainGlobals "all" = some none := by
      dsimp only [L2.KOf]
      k_is
    have z12 : PySem.W.nsIn (L2.KOf KX) mainGlobals "sorted" = some none := by
      dsimp only [L2.KOf]
      k_is
    have nou : ∃ aN : Addr, K31.NouK (L2.KOf KX) aN := by
      dsimp only [L2.KOf]
      refine' K31.NouK.mk' ?a ?l
      (case a => k_is); (case l => k_is)
    have mM : ∃ tk : Tok, PySem.W.nsIn (L2.KOf KX) mainGlobals "MOST_LETTERS" = some (some (.int 8 tk)) := by
      dsimp only [L2.KOf]
      refine' K31.mst_mk ?a
      (case a => k_is)
    have mL : ∃ tk : Tok, PySem.W.nsIn (L2.KOf KX) mainGlobals "LETTERS" = some (some (.str TM.LET tk)) := by
      dsimp only [L2.KOf]
      refine' K31.fgs_mk ?a ?e
      (case a => k_is); (case e => decide +kernel)
    have mR : ∃ tk : Tok, PySem.W.nsIn (L2.KOf KX) mainGlobals "MOST_ROOMS" = some (some (.int 16 tk)) := by
      dsimp only [L2.KOf]
      refine' K31.mst_mk ?a
      (case a => k_is)
    have mP : ∃ tk : Tok, PySem.W.nsIn (L2.KOf KX) mainGlobals "MOST_PAIRS" = some (some (.int 30 tk)) := by
      dsimp only [L2.KOf]
      refine' K31.mst_mk ?a
      (case a => k_is)
    refine' K31.all_mk KX G hmg ⟨dIsWh, dGcd, dIsAm, dIsWare, dIsBench, dRooms, dPairs, dRising, dIsPair, dClean, dCell, dMixed, dLowest, dDigit, dNames, dWares, dMuch, dApart, dFree, dBench, dRsp, dAsp, dSpoiled, z0, z1, z2, z3, z4, z5, z6, z7, z8, z9, z10, z11, z12, nou, mM, mL, mR, mP⟩ ?a4 ?l4 ?c4 ?k4
    (case a4 => k_is); (case l4 => k_is); (case c4 => k_is); (case k4 => k_is)

