import PyProof.Rows.All
import Wide.All
import OpenK.AllK
import Wide.FinOn
import Lean
import PyProof.EqAt
import PyProof.EqKinds
import PyProof.TupleCall
import PySem.Challenge.RW_phialhouse_k43_steps_narrow_enough
set_option Elab.async false
set_option linter.all false
set_option maxRecDepth 100000
set_option maxHeartbeats 4000000
/-! THE HAND LAYER, for ints, bools, texts, own classes, LISTS and tuples (index, slices, in, append, pop ..), calls, loops. Paste it whole ahead of your own text; what your proof does not reach may be deleted. -/
namespace L2
open PySem PySem.Spec PyProof.Rows

/-- a key: an int or a str -/
abbrev Key := Sum Int Str
def keyIs : Key → Value → Bool
  | .inl k, v => Value.isInt k v
  | .inr x, v => Value.isStrOf x v
def keyH (w : World) : Key → Int
  | .inl k => hashInt k
  | .inr x => hashStr w x
theorem keyIs_shape : ∀ {k : Key} {v : Value}, keyIs k v = true → (∃ i t, k = Sum.inl i ∧ v = Value.int i t) ∨ (∃ x t, k = Sum.inr x ∧ v = Value.str x t)
  | .inl i, v, h => by
    obtain ⟨t, e⟩ := Value.isInt_shape (k := i) (v := v) h
    exact .inl ⟨i, t, rfl, e⟩
  | .inr x, v, h => by
    obtain ⟨t, e⟩ := Value.isStrOf_shape (x := x) (v := v) h
    exact .inr ⟨x, t, rfl, e⟩
theorem keyIs_int (i : Int) (t : Tok) : keyIs (.inl i) (.int i t) = true := by simp [keyIs, Value.isInt]
theorem keyIs_str (x : Str) (t : Tok) : keyIs (.inr x) (.str x t) = true := by simp [keyIs, Value.isStrOf]
theorem key_ll (a b : Int) : decide ((Sum.inl a : Key) = Sum.inl b) = (a == b) := by
  by_cases e : a = b
  · subst e; simp
  · have h : ¬ (Sum.inl a : Key) = Sum.inl b := fun q => e (Sum.inl.inj q)
    rw [decide_eq_false h]
    exact (beq_eq_false_iff_ne.mpr e).symm
theorem key_rr (a b : Str) : decide ((Sum.inr a : Key) = Sum.inr b) = decide (a = b) := by
  by_cases e : a = b
  · subst e; simp
  · have h : ¬ (Sum.inr a : Key) = Sum.inr b := fun q => e (Sum.inr.inj q)
    rw [decide_eq_false h, decide_eq_false e]
theorem key_lr (a : Int) (b : Str) : decide ((Sum.inl a : Key) = Sum.inr b) = false := decide_eq_false (fun q => nomatch q)
theorem key_rl (a : Str) (b : Int) : decide ((Sum.inr a : Key) = Sum.inl b) = false := decide_eq_false (fun q => nomatch q)

def mixKind (prog : Program) (w : World) : PySem.KeyKind prog w Key where
  is := keyIs
  hash := keyH w
  inj := fun v a b ha hb => by
    rcases keyIs_shape ha with ⟨i, t, rfl, rfl⟩ | ⟨x, t, rfl, rfl⟩
    · rcases keyIs_shape hb with ⟨j, u, rfl, e⟩ | ⟨y, u, rfl, e⟩
      · injection e with e1 _; rw [e1]
      · exact nomatch e
    · rcases keyIs_shape hb with ⟨j, u, rfl, e⟩ | ⟨y, u, rfl, e⟩
      · exact nomatch e
      · injection e with e1 _; rw [e1]
  byValue := fun k v h => by
    rcases keyIs_shape h with ⟨i, t, rfl, rfl⟩ | ⟨x, t, rfl, rfl⟩ <;> rfl
  pyHash := fun hv h => by
    rcases keyIs_shape hv with ⟨i, t, rfl, rfl⟩ | ⟨x, t, rfl, rfl⟩
    · exact wpAny_pyHash_int h
    · exact wpAny_pyHash_str h
  eqBool := fun hu hv h => by
    rcases keyIs_shape hu with ⟨i, t, rfl, rfl⟩ | ⟨x, t, rfl, rfl⟩
    · rcases keyIs_shape hv with ⟨j, u, rfl, rfl⟩ | ⟨y, u, rfl, rfl⟩
      · rw [key_ll] at h; exact wpAny_eqBool_int h
      · rw [key_lr] at h; exact SeqAt.EqAt.int_str i t y u _ _ _ _ h
    · rcases keyIs_shape hv with ⟨j, u, rfl, rfl⟩ | ⟨y, u, rfl, rfl⟩
      · rw [key_rl] at h; exact SeqAt.EqAt.str_int x t j u _ _ _ _ h
      · rw [key_rr] at h; exact wpAny_eqBool_str h
  «strs» := fun k x t v h => by
    rcases keyIs_shape h with ⟨i, u, rfl, e⟩ | ⟨y, u, rfl, e⟩
    · exact nomatch e
    · injection e with e1 _
      subst e1
      cases v <;> rfl

theorem mixKind_int (prog : Program) (w : World) (i : Int) (t : Tok) : (mixKind prog w).is (.inl i) (.int i t) = true := keyIs_int i t
theorem mixKind_str (prog : Program) (w : World) (x : Str) (t : Tok) : (mixKind prog w).is (.inr x) (.str x t) = true := keyIs_str x t
end L2

namespace L2
open PySem PySem.Spec PyProof.Rows

/-- a value, without the heap -/
inductive V where
  | non | bl (b : Bool) | int (i : Int) | str (x : Str) | byt (b : Array UInt8) | flt (b : UInt64) | ref (a : Addr) | ty (n : String)
  deriving DecidableEq

def RelV : V → Value → Prop
  | .non, u => u = Value.none
  | .bl b, u => u = Value.bool b
  | .int i, u => ∃ t, u = Value.int i t
  | .str x, u => ∃ t, u = Value.str x t
  | .byt b, u => ∃ t, u = Value.bytes b t
  | .flt b, u => ∃ t, u = Value.float b t
  | .ref a, u => u = Value.ref a
  | .ty n, u => u = Value.type n

abbrev Vals : List V → List Value → Prop := Paired RelV
theorem Vals.length {xs : List V} {us : List Value} (r : Vals xs us) : xs.length = us.length := Paired.length r
theorem Vals.get : ∀ {xs : List V} {us : List Value} {i : Nat} {x : V}, Vals xs us → xs[i]? = some x → ∃ u, us[i]? = some u ∧ RelV x u
  | _, _, _, _, .nil, e => by simp at e
  | _, _, 0, _, .cons r _, e => by simp at e; subst e; exact ⟨_, rfl, r⟩
  | _, _, i + 1, x, .cons _ t, e => by
    obtain ⟨u, h1, h2⟩ := Vals.get (i := i) (x := x) t (by simpa using e)
    exact ⟨u, by simpa using h1, h2⟩
theorem Vals.set {x : V} {u : Value} (r : RelV x u) : ∀ {xs : List V} {us : List Value} (i : Nat), Vals xs us → Vals (xs.set i x) (us.set i u)
  | _, _, _, .nil => .nil
  | _, _, 0, .cons _ t => .cons r t
  | _, _, i + 1, .cons q t => .cons q (Vals.set r i t)
theorem Vals.append : ∀ {xs ys : List V} {us ws : List Value}, Vals xs us → Vals ys ws → Vals (xs ++ ys) (us ++ ws)
  | _, _, _, _, .nil, s => s
  | _, _, _, _, .cons r t, s => .cons r (Vals.append t s)
theorem Vals.take : ∀ {xs : List V} {us : List Value} (n : Nat), Vals xs us → Vals (xs.take n) (us.take n)
  | _, _, 0, _ => .nil
  | _, _, _ + 1, .nil => .nil
  | _, _, n + 1, .cons r t => .cons r (Vals.take n t)
theorem Vals.drop : ∀ {xs : List V} {us : List Value} (n : Nat), Vals xs us → Vals (xs.drop n) (us.drop n)
  | _, _, 0, r => r
  | _, _, _ + 1, .nil => .nil
  | _, _, n + 1, .cons _ t => Vals.drop n t
def RelO : Option V → Option Value → Prop
  | some v, some u => RelV v u
  | none, none => True
  | _, _ => False
def KV {κ : Type} : List (κ × V) → List (κ × Value) → Prop := Paired fun (p : κ × V) (q : κ × Value) => p.1 = q.1 ∧ RelV p.2 q.2

/-- a key of a dict (00_mix): an int or a text -/
def kV : Key → V
  | .inl i => .int i
  | .inr x => .str x

/-- what stands at a tracked address -/
inductive HO where
  /-- a list -/
  | lst (xs : List V)
  /-- a tuple (never changes) -/
  | tup (xs : List V)
  /-- a dict whose keys are ints and texts; one whose keys are tuples of ints and texts (the empty one is both) -/
  | dK (kvs : List (Key × V)) | dT (kvs : List (List Key × V))
  /-- a set of ints: its members, its size -/
  | set (S : Int → Bool) (n : Nat)
  /-- an instance of the class at C, its dict at dx, its attributes -/
  | ins (C dx : Addr) (fs : List (Str × V))
  /-- the dict of the instance at x -/
  | own (x : Addr)
  /-- the dict of an exception -/
  | xd (fs : List (Str × V))
  /-- a bound method, f of x -/
  | met (f x : Addr)
  /-- a range object lo, lo + 1, .. below hi -/
  | rng (lo hi : Int)
  /-- a thing that is known to the object (the script; a dict while a loop walks it): read, never written while it is so -/
  | frz (o : Obj) (u : HO)
  /-- a code object's table -/
  | tbl (ps : Array Value)
  /-- any other thing, by what is true of its one object (a def of one's own: SetO a S n := HO.ext fun h => ..) -/
  | ext (φ : Heap → Prop)

abbrev Hp := Addr → Option HO
def upd (H : Hp) (a : Addr) (o : HO) : Hp := fun b => if b = a then some o else H b
theorem upd_same {H : Hp} {a : Addr} {o : HO} : upd H a o a = some o := by unfold upd; rw [if_pos rfl]
theorem upd_ne {H : Hp} {a b : Addr} {o : HO} (h : b ≠ a) : upd H a o b = H b := by unfold upd; rw [if_neg h]
/-- two objects of different content stand apart -/
theorem ne_of {H : Hp} {a b : Addr} {o u : HO} (h : H a = some o) (h' : H b = some u) (d : o ≠ u) : a ≠ b := by
  intro e; subst e; rw [h] at h'; exact d (Option.some.inj h')
theorem ne_of_none {H : Hp} {a b : Addr} {o : HO} (h : H a = some o) (h' : H b = none) : a ≠ b := by
  intro e; subst e; rw [h] at h'; cases h'

section
variable (P : Program) (w : World)
def ObjOk (H : Hp) (h : Heap) (a : Addr) : HO → Prop
  | .lst xs => xs.length ≤ sizeLine ∧ ∃ (its : List Value) (n : Nat), Vals xs its ∧ h.get? a = some { cls := .type "list", data := .seq its.toArray n }
  | .tup xs => xs.length ≤ sizeLine ∧ ∃ its : List Value, Vals xs its ∧ IsTup h a its.toArray
  | .dK kvs => kvs.length ≤ sizeLine ∧ (a == sysModules) = false ∧ ∃ vs, KV kvs vs ∧ h.DictOf (mixKind P w) a vs
  | .dT kvs => kvs.length ≤ sizeLine ∧ (a == sysModules) = false ∧ ∃ xs : List (List Key × Addr × Value),
      Paired (fun (p : List Key × V) (q : List Key × Addr × Value) => p.1 = q.1 ∧ H q.2.1 = some (.tup (p.1.map kV)) ∧ RelV p.2 q.2.2) kvs xs ∧
      ∃ o es ep, h.get? a = some o ∧ o.ExactDict ∧ o.data = .dict es ep ∧ es.toList = xs.map (entryOfKey (tupleKind (mixKind P w))) ∧ (xs.map (·.1)).Nodup
  | .set S n => h.SetOf (intKind P w) a S n
  | .ins C dx fs => H dx = some (.own a) ∧ fs.length ≤ 1000 ∧ dx ≠ a ∧ h.get? a = some (PySem.W.instObj C dx) ∧
      ∃ mA, h.Ns1 dx mA ∧ (∀ f, RelO (fs.lookup f) (mA f)) ∧ PySem.Within mA (fs.map (·.1))
  | .own _ => ∃ o, h.get? a = some o
  | .xd fs => ∃ mA, h.Ns1 a mA ∧ ∀ f, RelO (fs.lookup f) (mA f)
  | .rng lo hi => ∃ t u v, h.get? a = some { cls := .type "range", data := .fields #[.int lo t, .int hi u, .int 1 v] }
  | .frz o u => h.get? a = some o ∧ ObjOk H h a u
  | .tbl ps => h.get? a = some { cls := .none, data := .fields ps }
  | .met f x => h.get? a = some (PySem.W.methodObj (.ref f) (.ref x))
  | .ext φ => φ h ∧ (∃ o, h.get? a = some o) ∧ ∀ h1 h2 : Heap, φ h1 → (∀ o, h1.get? a = some o → h2.get? a = some o) → φ h2
/-- the abstract heap is held -/
def HOk (H : Hp) (h : Heap) : Prop := ∀ a o, H a = some o → ObjOk P w H h a o
end

section
variable {P : Program} {w : World} {H H' : Hp} {h h' : Heap} {a : Addr} {o : HO}
theorem ObjOk.lt (x : ObjOk P w H h a o) : a < h.objs.size := by
  cases o with
  | lst xs => obtain ⟨_, _, _, _, e⟩ := x; exact Heap.lt_size e
  | tup xs => obtain ⟨_, _, _, p⟩ := x; exact p.lt
  | dK kvs => obtain ⟨_, _, _, _, o, _, _, e, _⟩ := x; exact Heap.lt_size e
  | dT kvs => obtain ⟨_, _, _, _, o, _, _, e, _⟩ := x; exact Heap.lt_size e
  | set S n => obtain ⟨o, _, _, _, e, _⟩ := x; exact Heap.lt_size e
  | ins C dx fs => obtain ⟨_, _, _, e, _⟩ := x; exact Heap.lt_size e
  | own y => obtain ⟨_, e⟩ := x; exact Heap.lt_size e
  | xd fs => obtain ⟨_, ⟨_, _, _, e, _⟩, _⟩ := x; exact Heap.lt_size e
  | rng lo hi => obtain ⟨_, _, _, e⟩ := x; exact Heap.lt_size e
  | frz ob u => obtain ⟨e, _⟩ := x; exact Heap.lt_size e
  | tbl ps => exact Heap.lt_size (show h.get? a = some _ from x)
  | met f y => exact Heap.lt_size (show h.get? a = some _ from x)
  | ext φ => obtain ⟨_, ⟨_, e⟩, _⟩ := x; exact Heap.lt_size e
theorem Paired.mapP {α β : Type} {F G : α → β → Prop} : ∀ {l₁ : List α} {l₂ : List β}, Paired F l₁ l₂ → (∀ a b, F a b → G a b) → Paired G l₁ l₂
  | _, _, .nil, _ => .nil
  | _, _, .cons r t, f => .cons (f _ _ r) (Paired.mapP t f)
/-- what an object's description leans on: its own object, its own dict, the tuples -/
theorem ObjOk.stay (x : ObjOk P w H h a o) (k : ∀ b u, (b = a ∨ H b = some (.own a)) → h.get? b = some u → h'.get? b = some u)
    (ho : ∀ b, H b = some (.own a) → H' b = some (.own a)) (ht : ∀ b xs, H b = some (.tup xs) → H' b = some (.tup xs)) : ObjOk P w H' h' a o := by
  induction o with
  | lst xs => obtain ⟨z, its, n, r, e⟩ := x; exact ⟨z, its, n, r, k _ _ (.inl rfl) e⟩
  | tup xs => obtain ⟨z, its, r, ob, e, c⟩ := x; exact ⟨z, its, r, ob, k _ _ (.inl rfl) e, c⟩
  | dK kvs => obtain ⟨z, y, vs, r, ob, es, ep, e, c⟩ := x; exact ⟨z, y, vs, r, ob, es, ep, k _ _ (.inl rfl) e, c⟩
  | dT kvs =>
    obtain ⟨z, y, xs, r, ob, es, ep, e, c⟩ := x
    exact ⟨z, y, xs, Paired.mapP r fun p q z => ⟨z.1, ht _ _ z.2.1, z.2.2⟩, ob, es, ep, k _ _ (.inl rfl) e, c⟩
  | set S n => obtain ⟨ob, es, ep, t, e, c⟩ := x; exact ⟨ob, es, ep, t, k _ _ (.inl rfl) e, c⟩
  | ins C dx fs =>
    obtain ⟨d, z, ne, e, mA, ⟨od, es, ep, e2, c⟩, r⟩ := x
    exact ⟨ho _ d, z, ne, k _ _ (.inl rfl) e, mA, ⟨od, es, ep, k _ _ (.inr d) e2, c⟩, r⟩
  | own y => obtain ⟨ob, e⟩ := x; exact ⟨ob, k _ _ (.inl rfl) e⟩
  | xd fs => obtain ⟨mA, ⟨od, es, ep, e, c⟩, r⟩ := x; exact ⟨mA, ⟨od, es, ep, k _ _ (.inl rfl) e, c⟩, r⟩
  | rng lo hi => obtain ⟨t, u, v, e⟩ := x; exact ⟨t, u, v, k _ _ (.inl rfl) e⟩
  | frz ob u ih => obtain ⟨e, q⟩ := x; exact ⟨k _ _ (.inl rfl) e, ih q⟩
  | tbl ps =>
    have e : h.get? a = some { cls := .none, data := .fields ps } := x
    show h'.get? a = some { cls := .none, data := .fields ps }
    exact k a _ (.inl rfl) e
  | met f y =>
    have e : h.get? a = some (PySem.W.methodObj (.ref f) (.ref y)) := x
    show h'.get? a = some (PySem.W.methodObj (.ref f) (.ref y))
    exact k a _ (.inl rfl) e
  | ext φ => obtain ⟨p, ⟨o, e⟩, st⟩ := x; exact ⟨st _ _ p fun o q => k _ _ (.inl rfl) q, ⟨o, k _ _ (.inl rfl) e⟩, st⟩
theorem HOk.lt (x : HOk P w H h) (e : H a = some o) : a < h.objs.size := (x a o e).lt
theorem HOk.fresh (x : HOk P w H h) (e : h.objs.size ≤ a) : H a = none := by
  cases q : H a with
  | none => rfl
  | some u => exact absurd (Nat.lt_of_lt_of_le (x.lt q) e) (Nat.lt_irrefl _)
/-- every object of the heap is kept -/
theorem HOk.kept (x : HOk P w H h) (k : ∀ b u, h.get? b = some u → h'.get? b = some u) : HOk P w H h' := fun a o e =>
  (x a o e).stay (fun b u _ q => k b u q) (fun _ q => q) fun _ _ q => q
/-- a new object is laid and tracked -/
theorem HOk.laid (x : HOk P w H h) (k : ∀ b u, h.get? b = some u → h'.get? b = some u) (hp : h.objs.size ≤ a) (new : ObjOk P w (upd H a o) h' a o) : HOk P w (upd H a o) h' := fun b u e => by
  have hn := x.fresh hp
  by_cases hb : b = a
  · subst hb; rw [upd_same] at e; cases e; exact new
  · rw [upd_ne hb] at e
    exact (x b u e).stay (fun c v _ q => k c v q) (fun c q => by rw [upd_ne (ne_of_none q hn)]; exact q) fun c xs q => by rw [upd_ne (ne_of_none q hn)]; exact q
end

/-- what may be read as u: it is u, or a known u -/
def Rd (H : Hp) (a : Addr) (u : HO) : Prop := H a = some u ∨ ∃ o, H a = some (.frz o u)
theorem Rd.ok {P : Program} {w : World} {H : Hp} {h : Heap} {a : Addr} {u : HO} (r : Rd H a u) (x : HOk P w H h) : ObjOk P w H h a u := by
  rcases r with r | ⟨o, r⟩
  · exact x a u r
  · obtain ⟨_, q⟩ := x a _ r
    exact q
/-- what may be written -/
def Mut : Option HO → Prop
  | some (.lst _) => True
  | some (.dK _) => True
  | some (.dT _) => True
  | some (.set _ _) => True
  | some (.ins _ _ _) => True
  | some (.ext _) => True
  | _ => False
section
variable {P : Program} {w : World} {H : Hp} {h h' : Heap} {x e : Addr} {o' : HO}
/-- the object at e is changed: x itself, or the dict of the instance x -/
theorem HOk.write (ok : HOk P w H h) (mu : Mut (H x)) (he : e = x ∨ H e = some (.own x)) (k : ∀ b u, b ≠ e → h.get? b = some u → h'.get? b = some u) (heo : ∃ u, h'.get? e = some u)
    (new : ObjOk P w (upd H x o') h' x o') : HOk P w (upd H x o') h' := fun b u q => by
  have nown : ∀ c y, H c = some (.own y) → c ≠ x := fun c y r z => by subst z; rw [r] at mu; exact mu
  have ntup : ∀ c xs, H c = some (.tup xs) → c ≠ x := fun c xs r z => by subst z; rw [r] at mu; exact mu
  by_cases hb : b = x
  · subst hb; rw [upd_same] at q; cases q; exact new
  · rw [upd_ne hb] at q
    by_cases hbe : b = e
    · have q' : H b = some (.own x) := by
        rcases he with z | z
        · exact absurd (hbe.trans z) hb
        · rw [hbe]; exact z
      rw [q] at q'; cases q'
      obtain ⟨v, hv⟩ := heo
      exact ⟨v, by rw [hbe]; exact hv⟩
    · refine (ok b u q).stay (fun c v hc r => k c v ?_ r) (fun c r => by rw [upd_ne (nown c b r)]; exact r) fun c xs r => by rw [upd_ne (ntup c xs r)]; exact r
      rcases hc with rfl | hc
      · exact hbe
      · rintro rfl
        rcases he with z | z
        · exact nown c b hc z
        · rw [hc] at z; cases z; exact hb rfl
end

/-! ### kept unless tracked; of the frames at fs (the callers') the slots may change (an exception that passes writes there); of the records at ex (iterators) nothing is said -/
structure Un (fs ex : List Addr) (H H' : Hp) (h h' : Heap) : Prop where
  keep : ∀ b o, h.get? b = some o → H b = none → b ∉ fs → b ∉ ex → h'.get? b = some o
  slot : ∀ b o, h.get? b = some o → H b = none → b ∈ fs → b ∉ ex → ∃ sl, h'.get? b = some { o with slots := sl }
  free : ∀ b o, h.get? b = some o → H b = none → b ∉ ex → H' b = none
  there : ∀ b o, h.get? b = some o → b ∉ ex → ∃ o', h'.get? b = some o'
  tups : ∀ b xs, H b = some (.tup xs) → H' b = some (.tup xs)
  frzs : ∀ b o u, H b = some (.frz o u) → H' b = some (.frz o u)
  tbls : ∀ b ps, H b = some (.tbl ps) → ∃ more, H' b = some (.tbl (ps ++ more))
section
variable {fs fs' ex ex' : List Addr} {H H1 H2 : Hp} {h h1 h2 h' : Heap} {a x e : Addr} {o : HO}
theorem Un.any (u : Un fs ex H H1 h h1) {b : Addr} {ob : Obj} (q : h.get? b = some ob) (n : H b = none) (hx : b ∉ ex) : ∃ sl, h1.get? b = some { ob with slots := sl } := by
  by_cases hb : b ∈ fs
  · exact u.slot b ob q n hb hx
  · exact ⟨ob.slots, u.keep b ob q n hb hx⟩
theorem Un.kept (k : ∀ b u, h.get? b = some u → h'.get? b = some u) : Un fs ex H H h h' :=
  ⟨fun b ob q _ _ _ => k b ob q, fun b ob q _ _ _ => ⟨ob.slots, k b ob q⟩, fun _ _ _ n _ => n, fun b ob q _ => ⟨ob, k b ob q⟩, fun _ _ q => q, fun _ _ _ q => q, fun _ ps q => ⟨#[], by rw [q]; simp⟩⟩
theorem Un.refl : Un fs ex H H h h := Un.kept fun _ _ q => q
theorem Un.laid (k : ∀ b u, h.get? b = some u → h'.get? b = some u) (hp : h.objs.size ≤ a) (hn : H a = none) : Un fs ex H (upd H a o) h h' where
  keep := fun b u q _ _ _ => k b u q
  slot := fun b u q _ _ _ => ⟨u.slots, k b u q⟩
  free := fun b u q n _ => by rw [upd_ne (Nat.ne_of_lt (Nat.lt_of_lt_of_le (Heap.lt_size q) hp))]; exact n
  there := fun b u q _ => ⟨u, k b u q⟩
  tups := fun b xs q => by rw [upd_ne (ne_of_none q hn)]; exact q
  frzs := fun b u xs q => by rw [upd_ne (ne_of_none q hn)]; exact q
  tbls := fun b ps q => ⟨#[], by rw [upd_ne (ne_of_none q hn), q]; simp⟩
theorem Un.write (mu : Mut (H x)) (he : e = x ∨ H e = some (.own x)) (k : ∀ b u, b ≠ e → h.get? b = some u → h'.get? b = some u) (heo : ∃ u, h'.get? e = some u) : Un fs ex H (upd H x o) h h' := by
  have hx : ∀ b, H b = none → b ≠ x := fun b n z => by subst z; rw [n] at mu; exact mu
  have hb : ∀ b, H b = none → b ≠ e := fun b n z => by
    subst z
    rcases he with r | r
    · exact hx b n r
    · rw [n] at r; cases r
  have hm : ∀ b u, H b = some u → ¬ Mut (some u) → b ≠ x := fun b u q nm z => by subst z; rw [q] at mu; exact nm mu
  refine ⟨fun b u q n _ _ => k b u (hb b n) q, fun b u q n _ _ => ⟨u.slots, k b u (hb b n) q⟩, fun b u q n _ => by rw [upd_ne (hx b n)]; exact n, fun b u q _ => ?_,
    fun b xs q => by rw [upd_ne (hm b _ q fun z => z)]; exact q, fun b u xs q => by rw [upd_ne (hm b _ q fun z => z)]; exact q, fun b ps q => ⟨#[], by rw [upd_ne (hm b _ q fun z => z), q]; simp⟩⟩
  by_cases hbe : b = e
  · subst hbe; exact heo
  · exact ⟨u, k b u hbe q⟩
end

/-! ### the heap without what is tracked -/
def trk (h : Heap) (H : Hp) : List Addr := (List.range h.objs.size).filter fun a => (H a).isSome
def hidT (h : Heap) (H : Hp) : Heap := PySem.W.hideAll h (trk h H)
theorem hidT_size (h : Heap) (H : Hp) : (hidT h H).objs.size = h.objs.size := PySem.W.hideAll_size _ _
theorem hidT_get {h : Heap} {H : Hp} {b : Addr} {o : Obj} (e : h.get? b = some o) (n : H b = none) : (hidT h H).get? b = some o :=
  PySem.W.hideAll_get _ e fun hm => by
    have q : (H b).isSome = true := (List.mem_filter.mp hm).2
    rw [n] at q; simp at q
theorem of_hidT {h : Heap} {H : Hp} {b : Addr} {o : Obj} (e : (hidT h H).get? b = some o) : h.get? b = some o ∧ H b = none := by
  have e' : h.get? b = some o := PySem.W.of_hideAll (trk h H) e
  refine ⟨e', ?_⟩
  cases q : H b with
  | none => rfl
  | some x =>
    have hm : b ∈ trk h H := List.mem_filter.mpr ⟨List.mem_range.mpr (Heap.lt_size e'), by simp [q]⟩
    have z : (hidT h H).get? b = none := PySem.W.hideAll_none (trk h H) hm
    rw [z] at e; cases e

/-! ### OpenK's ledger, filled with every new object but one -/
def allNews (g h : Heap) (L : Addr) : List (Addr × Obj) := (List.range h.objs.size).filterMap fun a => if a = L ∨ (g.get? a).isSome = true then none else (h.get? a).map fun o => (a, o)
theorem mem_allNews {g h : Heap} {L a : Addr} {o : Obj} (h1 : a ≠ L) (h2 : g.get? a = none) (h3 : h.get? a = some o) : (a, o) ∈ allNews g h L :=
  List.mem_filterMap.mpr ⟨a, List.mem_range.mpr (Heap.lt_size h3), by simp [h1, h2, h3]⟩
theorem of_mem_allNews {g h : Heap} {L : Addr} {p : Addr × Obj} (hp : p ∈ allNews g h L) : p.1 ≠ L ∧ g.get? p.1 = none ∧ h.get? p.1 = some p.2 := by
  obtain ⟨b, _, e⟩ := List.mem_filterMap.mp hp
  split at e
  · cases e
  · rename_i hn
    cases q : h.get? b with
    | none => rw [q] at e; simp at e
    | some u =>
      rw [q] at e
      simp only [Option.map_some, Option.some.injEq] at e
      subst e
      refine ⟨fun z => hn (.inl z), ?_, q⟩
      show g.get? b = none
      cases r : g.get? b with
      | none => rfl
      | some v => exact (hn (.inr (by simp [r]))).elim
def rest (g h : Heap) (L d : Addr) : List (Addr × Obj) := (allNews g h L).filter fun p => decide (p.1 ≠ d)
theorem news_all {g h : Heap} {L : Addr} : News g L h (allNews g h L) := fun p hp => let ⟨a, b, c⟩ := of_mem_allNews hp; ⟨c, a, b⟩
end L2

namespace L2
open PySem PySem.Spec PyProof.Rows

/-- the module's facts, over the base: the heap at the law's entry without what is tracked there -/
structure Mod (K : PySem.W.Frag) (mg : Str → Option Value) (base : Heap) : Prop where
  kin : K.In base
  glob : base.Ns mainGlobals mg
  blt : ∃ mb, base.Ns builtinsNs mb ∧ ∀ x : Str, x ≠ "__name__" → mb x = bootBuiltins x
  nolimit : base.NoLimit

/-- the context: a def's body (or a comprehension's block) running. base: fixed through the whole law; s₀, H₀: the entry; outer: the frames whose slots others may change (a def's callers); stack: all frames that run;
   ex: iterators that were made ahead of the entry and are walked here (a comprehension's); fn: the names whose cells were made at the entry (a def: all; a comprehension's block: its own); calm: not within an except suite; pn: pins that every state bears; xe: what is wanted of an exception that leaves the code -/
structure Cx where
  prog : Program
  w : World
  K : PySem.W.Frag
  mg : Str → Option Value
  base : Heap
  A : Around
  N : List Str
  s₀ : Shared
  H₀ : Hp
  env : Env
  outer : List Env
  stack : List Env
  ex : List Addr
  fn : Str → Bool
  calm : Bool
  pn : List (Addr × Obj)
  xe : Value → Shared → Prop
/-- the callers' frames -/
def frs (l : List Env) : List Addr := l.filterMap (·.frame)
abbrev Cx.fs (X : Cx) : List Addr := frs X.outer

def Vis (sc : Scope) (x : Str) : Prop := sc.names.lookup x = some .local ∨ sc.names.lookup x = some .cell ∨ sc.names.lookup x = some .free
def Loc (sc : Scope) (x : Str) : Prop := sc.names.lookup x = some .local ∨ sc.names.lookup x = some .cell
def Look (env : Env) (h : Heap) (m : Str → Option Value) (x : Str) (u : Value) : Prop :=
  (env.kindOf x = some .local ∧ m x = some u) ∨ ((env.kindOf x = some .cell ∨ env.kindOf x = some .free) ∧ ∃ c, env.cells.lookup x = some c ∧ h.IsCell c (some u))

structure Cx.Ok (X : Cx) : Prop where
  mod : Mod X.K X.mg X.base
  kind : X.env.scope.kind = .function
  glob : X.env.globals = mainGlobals
  blt : X.env.builtins = builtinsNs
  above : X.s₀.heap.objs.size ≤ X.env.locals
  inj : ∀ x y c, X.env.cells.lookup x = some c → X.env.cells.lookup y = some c → x = y
  has : ∀ x, (X.env.kindOf x = some .cell ∨ X.env.kindOf x = some .free) → ∃ c, X.env.cells.lookup x = some c
  cab : ∀ x c, X.fn x = true → X.env.cells.lookup x = some c → X.s₀.heap.objs.size ≤ c
  hd : X.calm = true → X.A.handled = none
  frames : X.A.frames = some X.stack
  stk : X.stack = X.outer ∨ (X.stack = X.env :: X.outer ∧ X.env.frame = some X.env.locals)
  exf : ∀ b ∈ X.ex, b ≠ X.env.locals ∧ ∀ x c, X.env.cells.lookup x = some c → c ≠ b
  bs : ∀ b o, X.base.get? b = some o → X.s₀.heap.get? b = some o ∧ X.H₀ b = none
  bsz : X.base.objs.size ≤ X.s₀.heap.objs.size
  noex : ∀ b o, X.base.get? b = some o → b ∉ X.ex
  exfs : ∀ b ∈ X.ex, b ∉ X.fs
  funs : X.s₀.heap.FunFrames X.base X.outer
  frf : ∀ b ∈ X.fs, X.H₀ b = none

structure Inv (X : Cx) (pins : List (Addr × Obj)) (σ : List (Option V)) (H : Hp) (s : Shared) : Prop where
  ok : X.Ok
  os : s.os = X.s₀.os
  bare : AllBare s.gens
  base : Un X.fs X.ex X.H₀ H X.s₀.heap s.heap
  loc : ∃ m, s.heap.Ns X.env.locals m ∧ ∀ (i : Nat) (x : Str) (v : V), X.N[i]? = some x → σ[i]? = some (some v) → Vis X.env.scope x → ∃ u, RelV v u ∧ Look X.env s.heap m x u
  cell : ∀ x c, X.env.cells.lookup x = some c → ∃ v, s.heap.IsCell c v
  free : H X.env.locals = none
  freeC : ∀ x c, X.env.cells.lookup x = some c → H c = none
  pin : ∀ p ∈ X.pn ++ pins, s.heap.get? p.1 = some p.2 ∧ H p.1 = none ∧ p.1 ≠ X.env.locals ∧ p.1 ∉ X.fs ∧ ∀ v, p.2.data ≠ .cell v
  hok : HOk X.prog X.w H s.heap
  len : σ.length = X.N.length

section
variable {X : Cx} {pins : List (Addr × Obj)} {σ : List (Option V)} {H H' : Hp} {s : Shared} {h' : Heap}

theorem Cx.Ok.nofr (ok : X.Ok) {b : Addr} {o : Obj} (e : X.base.get? b = some o) : b ∉ X.fs := fun hb => by
  have := (ok.funs.mem hb).1
  rw [e] at this; cases this
theorem Inv.bs (I : Inv X pins σ H s) : ∀ b o, X.base.get? b = some o → s.heap.get? b = some o ∧ H b = none := fun b o e =>
  ⟨I.base.keep b o (I.ok.bs b o e).1 (I.ok.bs b o e).2 (I.ok.nofr e) (I.ok.noex b o e), I.base.free b o (I.ok.bs b o e).1 (I.ok.bs b o e).2 (I.ok.noex b o e)⟩
theorem Inv.bk (I : Inv X pins σ H s) : ∀ b o, X.base.get? b = some o → s.heap.get? b = some o := fun b o e => (I.bs b o e).1
theorem Inv.mod (I : Inv X pins σ H s) : Mod X.K X.mg X.base := I.ok.mod
theorem Inv.kIn (I : Inv X pins σ H s) : X.K.In s.heap := I.ok.mod.kin.keeps I.bk
theorem Inv.nolimit (I : Inv X pins σ H s) : s.heap.NoLimit := I.ok.mod.nolimit.keeps I.bk
/-- the frame over the base: for OpenK's rules (K.In X.base is I.mod.kin) -/
theorem Inv.fr (I : Inv X pins σ H s) : ∃ m, Fr X.base X.env.locals s.heap m :=
  let ⟨m, hn, _⟩ := I.loc
  ⟨m, hn, I.bk, Nat.le_trans I.ok.bsz I.ok.above⟩
theorem Inv.lt (I : Inv X pins σ H s) : X.env.locals < s.heap.objs.size := let ⟨_, hn, _⟩ := I.loc; hn.lt
theorem Inv.sz (I : Inv X pins σ H s) : X.s₀.heap.objs.size ≤ s.heap.objs.size := Nat.le_trans I.ok.above (Nat.le_of_lt I.lt)
theorem Inv.nofs (I : Inv X pins σ H s) {a : Addr} (h : s.heap.objs.size ≤ a) : a ∉ X.fs := fun hb => by
  obtain ⟨_, o, ho, _⟩ := I.ok.funs.mem hb
  exact absurd (Nat.lt_of_lt_of_le (Heap.lt_size ho) (Nat.le_trans I.sz h)) (Nat.lt_irrefl _)
theorem Inv.cne (I : Inv X pins σ H s) : ∀ x c, X.env.cells.lookup x = some c → c ≠ X.env.locals := fun x c e z => by
  obtain ⟨v, o, ho, hd⟩ := I.cell x c e
  obtain ⟨m, ⟨o', es, ep, ho', hd', _⟩, _⟩ := I.loc
  rw [z, ho'] at ho; cases ho; rw [hd'] at hd; cases hd
theorem Inv.funs (I : Inv X pins σ H s) : s.heap.FunFrames X.base X.outer := by
  have all : ∀ (l : List Env), (∀ b ∈ frs l, b ∈ X.fs) → X.s₀.heap.FunFrames X.base l → s.heap.FunFrames X.base l := by
    intro l
    induction l with
    | nil => intro _ _; trivial
    | cons env r ih =>
      intro hs hl
      obtain ⟨hk, ⟨L, o, hf, hn, ho, hd⟩, hr⟩ := hl
      have hL : L ∈ X.fs := hs L (by unfold frs; rw [List.filterMap_cons, hf]; exact List.mem_cons_self)
      obtain ⟨sl, e⟩ := I.base.slot L o ho (I.ok.frf L hL) hL fun z => I.ok.exfs L z hL
      exact ⟨hk, ⟨L, _, hf, hn, e, hd⟩, ih (fun b hb => hs b (by unfold frs; rw [List.filterMap_cons, hf]; exact List.mem_cons_of_mem _ hb)) hr⟩
  exact all X.outer (fun _ hb => hb) I.ok.funs

/-- the frames that run, for a call -/
theorem Inv.stack (I : Inv X pins σ H s) : s.heap.FunFrames X.base X.stack := by
  rcases I.ok.stk with e | ⟨e, hf⟩
  · rw [e]; exact I.funs
  · rw [e]
    obtain ⟨m, hn, _⟩ := I.loc
    refine .cons (by rw [I.ok.kind]; decide) hf hn ?_ I.funs
    exact Heap.get?_none_of_le (Nat.le_trans I.ok.bsz I.ok.above)
theorem Inv.stkSub (I : Inv X pins σ H s) : ∀ b ∈ frs X.stack, b ∈ X.env.locals :: X.fs := fun b hb => by
  rcases I.ok.stk with e | ⟨e, hf⟩
  · rw [e] at hb; exact List.mem_cons_of_mem _ hb
  · rw [e] at hb
    unfold frs at hb
    rw [List.filterMap_cons, hf] at hb
    exact hb
theorem Inv.stkFree (I : Inv X pins σ H s) : ∀ b ∈ frs X.stack, H b = none := fun b hb => by
  rcases List.mem_cons.mp (I.stkSub b hb) with e | hb
  · rw [e]; exact I.free
  · obtain ⟨_, o, ho, _⟩ := I.ok.funs.mem hb
    exact I.base.free b o ho (I.ok.frf b hb) fun z => I.ok.exfs b z hb

/-- THE STEP: the untracked objects but the frame and the records at ch are kept (the callers' frames up to slots), the frame's map is kept, the new abstract heap is held -/
theorem Inv.step {g' : Array GenState} {t' : Nat} {d' : Drawn} {ch : List Addr} (I : Inv X pins σ H s)
    (hch : ∀ b ∈ ch, (b ∈ X.ex ∨ X.s₀.heap.objs.size ≤ b) ∧ b ≠ X.env.locals ∧ (∀ x c, X.env.cells.lookup x = some c → c ≠ b) ∧ ∀ p ∈ X.pn ++ pins, p.1 ≠ b)
    (keep : ∀ b o, b ≠ X.env.locals → b ∉ X.fs → b ∉ ch → s.heap.get? b = some o → H b = none → h'.get? b = some o)
    (slot : ∀ b o, b ≠ X.env.locals → b ∈ X.fs → b ∉ ch → s.heap.get? b = some o → H b = none → ∃ sl, h'.get? b = some { o with slots := sl }) (free : ∀ b o, b ∉ ch → s.heap.get? b = some o → H b = none → H' b = none)
    (there : ∀ b o, b ∉ ch → s.heap.get? b = some o → ∃ o', h'.get? b = some o')
    (tups : ∀ b xs, H b = some (.tup xs) → H' b = some (.tup xs)) (frzs : ∀ b o u, H b = some (.frz o u) → H' b = some (.frz o u)) (tbls : ∀ b ps, H b = some (.tbl ps) → ∃ more, H' b = some (.tbl (ps ++ more)))
    (ns : ∀ m, s.heap.Ns X.env.locals m → h'.Ns X.env.locals m) (hok : HOk X.prog X.w H' h') (hg : AllBare g') :
    Inv X pins σ H' { s with heap := h', gens := g', drawn := d', toks := t' } := by
  have neL : ∀ b o, X.s₀.heap.get? b = some o → b ≠ X.env.locals := fun b o e => Nat.ne_of_lt (Nat.lt_of_lt_of_le (Heap.lt_size e) I.ok.above)
  have neC : ∀ b o, X.s₀.heap.get? b = some o → b ∉ X.ex → b ∉ ch := fun b o e hx hb => by
    rcases (hch b hb).1 with z | z
    · exact hx z
    · exact absurd (Nat.lt_of_lt_of_le (Heap.lt_size e) z) (Nat.lt_irrefl _)
  have cellK : ∀ x c, X.env.cells.lookup x = some c → ∀ v, s.heap.IsCell c v → h'.IsCell c v := fun x c e v ⟨o, ho, hd⟩ => by
    have nch : c ∉ ch := fun z => (hch c z).2.2.1 x c e rfl
    by_cases hc : c ∈ X.fs
    · obtain ⟨sl, q⟩ := slot c o (I.cne x c e) hc nch ho (I.freeC x c e)
      exact ⟨_, q, hd⟩
    · exact ⟨o, keep c o (I.cne x c e) hc nch ho (I.freeC x c e), hd⟩
  refine ⟨I.ok, I.os, hg, ⟨fun b o e n hb hx => ?_, fun b o e n hb hx => ?_, fun b o e n hx => ?_, fun b o e hx => ?_, fun b xs e => tups b xs (I.base.tups b xs e), fun b o xs e => frzs b o xs (I.base.frzs b o xs e), fun b ps e => ?_⟩, ?_, fun x c e => ?_, ?_, fun x c e => ?_, fun p hp => ?_, hok, I.len⟩
  · exact keep b o (neL b o e) hb (neC b o e hx) (I.base.keep b o e n hb hx) (I.base.free b o e n hx)
  · obtain ⟨sl, e1⟩ := I.base.slot b o e n hb hx
    obtain ⟨sl', e2⟩ := slot b _ (neL b o e) hb (neC b o e hx) e1 (I.base.free b o e n hx)
    exact ⟨sl', e2⟩
  · obtain ⟨o', e1⟩ := I.base.there b o e hx
    exact free b o' (neC b o e hx) e1 (I.base.free b o e n hx)
  · obtain ⟨o', e1⟩ := I.base.there b o e hx
    exact there b o' (neC b o e hx) e1
  · obtain ⟨m1, e1⟩ := I.base.tbls b ps e
    obtain ⟨m2, e2⟩ := tbls b _ e1
    exact ⟨m1 ++ m2, by rw [e2, Array.append_assoc]⟩
  · obtain ⟨m, hn, hl⟩ := I.loc
    refine ⟨m, ns m hn, fun i x v e1 e2 e3 => ?_⟩
    obtain ⟨u, r, l⟩ := hl i x v e1 e2 e3
    refine ⟨u, r, ?_⟩
    rcases l with l | ⟨k, c, e, z⟩
    · exact .inl l
    · exact .inr ⟨k, c, e, cellK x c e _ z⟩
  · obtain ⟨v, z⟩ := I.cell x c e
    exact ⟨v, cellK x c e v z⟩
  · obtain ⟨m, ⟨o, _, _, ho, _⟩, _⟩ := I.loc
    exact free _ o (fun z => (hch _ z).2.1 rfl) ho I.free
  · obtain ⟨v, o, ho, hd⟩ := I.cell x c e
    exact free c o (fun z => (hch c z).2.2.1 x c e rfl) ho (I.freeC x c e)
  · obtain ⟨e, n, ne, nf, d⟩ := I.pin p hp
    have nch : p.1 ∉ ch := fun z => (hch p.1 z).2.2.2 p hp rfl
    exact ⟨keep p.1 p.2 ne nf nch e n, free p.1 p.2 nch e n, ne, nf, d⟩
/-- .. where the frame's own object is kept too -/
theorem Inv.un {t' : Nat} (I : Inv X pins σ H s) (u : Un X.fs [] H H' s.heap h') (hok : HOk X.prog X.w H' h') : Inv X pins σ H' { s with heap := h', toks := t' } := by
  obtain ⟨m, ⟨o, es, ep, ho, r⟩, _⟩ := id I.loc
  obtain ⟨sl, hL⟩ := u.any ho I.free (by simp)
  exact I.step (g' := s.gens) (d' := s.drawn) (ch := []) (fun _ z => nomatch z) (fun b o _ hb _ e n => u.keep b o e n hb (by simp)) (fun b o _ hb _ e n => u.slot b o e n hb (by simp)) (fun b o _ e n => u.free b o e n (by simp)) (fun b o _ e => u.there b o e (by simp)) u.tups u.frzs u.tbls (fun m' hm => by
    obtain ⟨o', es', ep', ho', r'⟩ := hm
    rw [ho] at ho'; cases ho'
    exact ⟨_, es', ep', hL, r'⟩) hok I.bare
/-- behind a call (or a comprehension's block): the slots of this frame may have changed too, the records at ch may have turned -/
theorem Inv.call {g' : Array GenState} {t' : Nat} {d' : Drawn} {ch : List Addr} (I : Inv X pins σ H s) (u : Un (frs X.stack) ch H H' s.heap h') (hok : HOk X.prog X.w H' h') (hg : AllBare g')
    (hch : ∀ b ∈ ch, (b ∈ X.ex ∨ X.s₀.heap.objs.size ≤ b) ∧ b ≠ X.env.locals ∧ (∀ x c, X.env.cells.lookup x = some c → c ≠ b) ∧ ∀ p ∈ X.pn ++ pins, p.1 ≠ b) :
    Inv X pins σ H' { s with heap := h', gens := g', drawn := d', toks := t' } := by
  obtain ⟨m, ⟨o, es, ep, ho, r⟩, _⟩ := id I.loc
  obtain ⟨sl, hL⟩ := u.any ho I.free fun z => (hch _ z).2.1 rfl
  exact I.step (ch := ch) hch (fun b o hL hb hc e n => u.keep b o e n (fun z => (List.mem_cons.mp (I.stkSub b z)).elim hL hb) hc) (fun b o _ _ hc e n => u.any e n hc) (fun b o hc e n => u.free b o e n hc) (fun b o hc e => u.there b o e hc) u.tups u.frzs u.tbls (fun m' hm => by
    obtain ⟨o', es', ep', ho', r'⟩ := hm
    rw [ho] at ho'; cases ho'
    exact ⟨_, es', ep', hL, r'⟩) hok hg
/-- an untracked record of ours (an iterator) has turned -/
theorem Inv.turned {t' : Nat} {it : Addr} (I : Inv X pins σ H s) (k : ∀ b o, b ≠ it → s.heap.get? b = some o → h'.get? b = some o) (hn : H it = none) (hL : it ≠ X.env.locals)
    (h1 : it ∈ X.ex ∨ X.s₀.heap.objs.size ≤ it) (h2 : ∀ x c, X.env.cells.lookup x = some c → c ≠ it) (h3 : ∀ p ∈ X.pn ++ pins, p.1 ≠ it) : Inv X pins σ H { s with heap := h', toks := t' } := by
  have nit : ∀ b u, H b = some u → b ≠ it := fun b u e z => by rw [z, hn] at e; cases e
  refine I.step (g' := s.gens) (d' := s.drawn) (ch := [it]) (fun b hb => ?_) (fun b o _ _ hc e _ => k b o (fun z => hc (by simp [z])) e) (fun b o _ _ hc e _ => ⟨o.slots, k b o (fun z => hc (by simp [z])) e⟩) (fun _ _ _ _ n => n)
    (fun b o hc e => ⟨o, k b o (fun z => hc (by simp [z])) e⟩) (fun _ _ e => e) (fun _ _ _ e => e) (fun b ps e => ⟨#[], by rw [e]; simp⟩) (fun m hm => ?_) (fun b u e => ?_) I.bare
  · have e : b = it := by simpa using hb
    subst e
    exact ⟨h1, hL, h2, h3⟩
  · obtain ⟨o, es, ep, ho, r⟩ := hm
    exact ⟨o, es, ep, k _ o (Ne.symm hL) ho, r⟩
  · refine (I.hok b u e).stay (fun c v hc q => k c v ?_ q) (fun _ q => q) fun _ _ q => q
    rcases hc with z | z
    · rw [z]; exact nit b u e
    · exact nit c _ z
theorem Inv.tok (I : Inv X pins σ H s) (t : Nat) : Inv X pins σ H { s with toks := t } := I.un (h' := s.heap) (t' := t) Un.refl I.hok
/-- all objects kept -/
theorem Inv.kept {t' : Nat} (I : Inv X pins σ H s) (k : ∀ b u, s.heap.get? b = some u → h'.get? b = some u) : Inv X pins σ H { s with heap := h', toks := t' } := I.un (Un.kept k) (I.hok.kept k)
/-- a new object laid and tracked -/
theorem Inv.laid {a : Addr} {o : HO} {t' : Nat} (I : Inv X pins σ H s) (k : ∀ b u, s.heap.get? b = some u → h'.get? b = some u) (hp : s.heap.objs.size ≤ a) (new : ObjOk X.prog X.w (upd H a o) h' a o) :
    Inv X pins σ (upd H a o) { s with heap := h', toks := t' } := I.un (Un.laid k hp (I.hok.fresh hp)) (I.hok.laid k hp new)
/-- an object written -/
theorem Inv.write {x e : Addr} {o : HO} {t' : Nat} (I : Inv X pins σ H s) (mu : Mut (H x)) (he : e = x ∨ H e = some (.own x)) (k : ∀ b u, b ≠ e → s.heap.get? b = some u → h'.get? b = some u) (heo : ∃ u, h'.get? e = some u)
    (new : ObjOk X.prog X.w (upd H x o) h' x o) : Inv X pins σ (upd H x o) { s with heap := h', toks := t' } := I.un (Un.write mu he k heo) (I.hok.write mu he k heo new)
/-- forgetting slots, pins -/
theorem Inv.weak {σ' : List (Option V)} (I : Inv X pins σ H s) (hl : σ'.length = σ.length) (w : ∀ (i : Nat) v, σ'[i]? = some (some v) → σ[i]? = some (some v)) : Inv X pins σ' H s :=
  ⟨I.ok, I.os, I.bare, I.base, let ⟨m, hn, hl'⟩ := I.loc; ⟨m, hn, fun i x v e1 e2 e3 => hl' i x v e1 (w i v e2) e3⟩, I.cell, I.free, I.freeC, I.pin, I.hok, hl.trans I.len⟩
theorem Inv.pins_of {pins' : List (Addr × Obj)} (I : Inv X pins σ H s) (h : ∀ p ∈ pins', s.heap.get? p.1 = some p.2 ∧ H p.1 = none ∧ p.1 ≠ X.env.locals ∧ p.1 ∉ X.fs ∧ ∀ v, p.2.data ≠ .cell v) : Inv X pins' σ H s :=
  ⟨I.ok, I.os, I.bare, I.base, I.loc, I.cell, I.free, I.freeC, fun p hp => (List.mem_append.mp hp).elim (fun z => I.pin p (List.mem_append_left _ z)) (h p), I.hok, I.len⟩

theorem nodup_ix {N : List Str} (hN : N.Nodup) {i j : Nat} {x : Str} (a : N[i]? = some x) (b : N[j]? = some x) : i = j := by
  obtain ⟨h1, e1⟩ := List.getElem?_eq_some_iff.mp a
  obtain ⟨h2, e2⟩ := List.getElem?_eq_some_iff.mp b
  exact (List.getElem_inj hN).mp (e1.trans e2.symm)

/-- a name is stored; what changed -/
theorem store_ok2 {M : Model} {A : Around} {E : Value → Shared → Prop} {i : Nat} {x : Str} {v : V} {u : Value} {Q : Unit → Shared → Prop} (I : Inv X pins σ H s) (hN : X.N.Nodup) (hi : X.N[i]? = some x) (hx : Loc X.env.scope x) (r : RelV v u)
    (h : ∀ s', Inv X pins (σ.set i (some v)) H s' → (∃ a, Heap.SameBut a s.heap s'.heap ∧ (a = X.env.locals ∨ X.env.cells.lookup x = some a)) → Q () s') (hf : X.fn x = true ∨ X.env.scope.names.lookup x = some .local := by first | exact .inl rfl | exact .inr rfl | assumption) : wpAny M A (storeName X.env x u) Q E s := by
  obtain ⟨m, hn, hl⟩ := id I.loc
  have hcls : (X.env.scope.kind == .class || (X.env.scope.kind == .module && X.env.locals != X.env.globals)) = false := by rw [I.ok.kind]; rfl
  have hiσ : i < σ.length := by rw [I.len]; exact (List.getElem?_eq_some_iff.mp hi).1
  have cne := I.cne
  have tracked : ∀ {a : Addr} {h' : Heap}, (∃ o, s.heap.get? a = some o ∧ H a = none) → Heap.SameBut a s.heap h' → HOk X.prog X.w H h' := fun {a h'} ha hs b ob e => by
    obtain ⟨_, _, hfree⟩ := ha
    refine (I.hok b ob e).stay (fun c w' hc q => (hs.2 c ?_).trans q) (fun _ q => q) fun _ _ q => q
    rintro rfl
    rcases hc with rfl | hc
    · rw [hfree] at e; cases e
    · rw [hfree] at hc; cases hc
  rcases hx with hk | hk
  · refine wpAny_storeName_local hk hn (fun h' hn' hs => ?_) hcls
    obtain ⟨oL, _, _, hoL, _⟩ := id hn
    refine h _ ⟨I.ok, I.os, I.bare, ⟨fun b o e n hb hx => ?_, fun b o e n hb hx => ?_, I.base.free, fun b o e hx => ?_, I.base.tups, I.base.frzs, I.base.tbls⟩, ⟨_, hn', fun j y v' e1 e2 e3 => ?_⟩, fun y c e => ?_, I.free, I.freeC, fun p hp => ?_, tracked ⟨oL, hoL, I.free⟩ hs, by simpa using I.len⟩ ⟨_, hs, .inl rfl⟩
    · exact (hs.2 b (Nat.ne_of_lt (Nat.lt_of_lt_of_le (Heap.lt_size e) I.ok.above))).trans (I.base.keep b o e n hb hx)
    · obtain ⟨sl, e1⟩ := I.base.slot b o e n hb hx
      exact ⟨sl, (hs.2 b (Nat.ne_of_lt (Nat.lt_of_lt_of_le (Heap.lt_size e) I.ok.above))).trans e1⟩
    · obtain ⟨o', e1⟩ := I.base.there b o e hx
      exact ⟨o', (hs.2 b (Nat.ne_of_lt (Nat.lt_of_lt_of_le (Heap.lt_size e) I.ok.above))).trans e1⟩
    · by_cases hj : j = i
      · subst hj
        rw [hi] at e1; cases e1
        rw [List.getElem?_set_self hiσ] at e2
        cases e2
        exact ⟨u, r, .inl ⟨hk, by simp⟩⟩
      · rw [List.getElem?_set_ne (Ne.symm hj)] at e2
        obtain ⟨u', r', q⟩ := hl j y v' e1 e2 e3
        refine ⟨u', r', ?_⟩
        rcases q with ⟨k, e⟩ | ⟨k, c, e, z⟩
        · refine .inl ⟨k, ?_⟩
          have : y ≠ x := fun e => hj (nodup_ix hN e1 (e ▸ hi))
          simp [this, e]
        · exact .inr ⟨k, c, e, z.sameBut hs (cne y c e)⟩
    · obtain ⟨w', z⟩ := I.cell y c e
      exact ⟨w', z.sameBut hs (cne y c e)⟩
    · obtain ⟨e, n, ne, nf, d⟩ := I.pin p hp
      exact ⟨(hs.2 p.1 ne).trans e, n, ne, nf, d⟩
  · have hfn : X.fn x = true := by
      rcases hf with z | z
      · exact z
      · rw [z] at hk; cases hk
    obtain ⟨c, hc⟩ := I.ok.has x (.inl hk)
    obtain ⟨w', z⟩ := I.cell x c hc
    refine wpAny_storeName_cell I.ok.kind hk hc z (fun h' hc' hs => ?_)
    obtain ⟨oc, hoc, hocd⟩ := id z
    refine h { s with heap := h' } ⟨I.ok, I.os, I.bare, ⟨fun b o e n hb hx => ?_, fun b o e n hb hx => ?_, I.base.free, fun b o e hx => ?_, I.base.tups, I.base.frzs, I.base.tbls⟩, ⟨m, hn.sameBut hs (Ne.symm (cne x c hc)), fun j y v' e1 e2 e3 => ?_⟩, fun y c' e => ?_, I.free, I.freeC, fun p hp => ?_, tracked ⟨oc, hoc, I.freeC x c hc⟩ hs, by simpa using I.len⟩ ⟨c, hs, .inr hc⟩
    · exact (hs.2 b (Nat.ne_of_lt (Nat.lt_of_lt_of_le (Heap.lt_size e) (I.ok.cab x c hfn hc)))).trans (I.base.keep b o e n hb hx)
    · obtain ⟨sl, e1⟩ := I.base.slot b o e n hb hx
      exact ⟨sl, (hs.2 b (Nat.ne_of_lt (Nat.lt_of_lt_of_le (Heap.lt_size e) (I.ok.cab x c hfn hc)))).trans e1⟩
    · obtain ⟨o', e1⟩ := I.base.there b o e hx
      exact ⟨o', (hs.2 b (Nat.ne_of_lt (Nat.lt_of_lt_of_le (Heap.lt_size e) (I.ok.cab x c hfn hc)))).trans e1⟩
    · by_cases hj : j = i
      · subst hj
        rw [hi] at e1; cases e1
        rw [List.getElem?_set_self hiσ] at e2
        cases e2
        exact ⟨u, r, .inr ⟨.inl hk, c, hc, hc'⟩⟩
      · rw [List.getElem?_set_ne (Ne.symm hj)] at e2
        obtain ⟨u', r', q⟩ := hl j y v' e1 e2 e3
        refine ⟨u', r', ?_⟩
        rcases q with q | ⟨k, c', e, z'⟩
        · exact .inl q
        · refine .inr ⟨k, c', e, z'.sameBut hs ?_⟩
          rintro rfl
          exact hj (nodup_ix hN e1 (I.ok.inj _ _ _ e hc ▸ hi))
    · by_cases hcc : c' = c
      · subst hcc; exact ⟨_, hc'⟩
      · obtain ⟨w2, z2⟩ := I.cell y c' e
        exact ⟨w2, z2.sameBut hs hcc⟩
    · obtain ⟨e, n, ne, nf, d⟩ := I.pin p hp
      refine ⟨(hs.2 p.1 ?_).trans e, n, ne, nf, d⟩
      intro q
      rw [q, hoc] at e
      have q' : oc = p.2 := Option.some.inj e
      exact d w' (by rw [← q']; exact hocd)
theorem store_ok {M : Model} {A : Around} {E : Value → Shared → Prop} {i : Nat} {x : Str} {v : V} {u : Value} {Q : Unit → Shared → Prop} (I : Inv X pins σ H s) (hN : X.N.Nodup) (hi : X.N[i]? = some x) (hx : Loc X.env.scope x) (r : RelV v u)
    (h : ∀ s', Inv X pins (σ.set i (some v)) H s' → Q () s') (hf : X.fn x = true ∨ X.env.scope.names.lookup x = some .local := by first | exact .inl rfl | exact .inr rfl | assumption) : wpAny M A (storeName X.env x u) Q E s :=
  store_ok2 I hN hi hx r (fun s' I' _ => h s' I') hf
/-- behind a call or a block, the state as it is -/
theorem Inv.call' {s' : Shared} {ch : List Addr} (I : Inv X pins σ H s) (ho : s'.os = s.os) (u : Un (frs X.stack) ch H H' s.heap s'.heap) (hok : HOk X.prog X.w H' s'.heap) (hg : AllBare s'.gens)
    (hch : ∀ b ∈ ch, (b ∈ X.ex ∨ X.s₀.heap.objs.size ≤ b) ∧ b ≠ X.env.locals ∧ (∀ x c, X.env.cells.lookup x = some c → c ≠ b) ∧ ∀ p ∈ X.pn ++ pins, p.1 ≠ b) : Inv X pins σ H' s' := by
  obtain ⟨h', g', d', t', o'⟩ := s'
  have e : o' = s.os := ho
  subst e
  exact I.call (g' := g') (t' := t') (d' := d') u hok hg hch
end

/-! ### the judgements -/
/-- an exception: its class, its own dict's address (where it has one), the abstract heap behind it -/
abbrev XK := Value → Option Addr → Hp → Prop
abbrev St := List (Option V)
abbrev VK := V → Hp → Prop
/-- an expression's reading; a test's; an argument list's -/
abbrev TE := St → Hp → VK → Prop
abbrev TT := St → Hp → (Bool → Hp → Prop) → Prop
abbrev TA := St → Hp → (List V → Hp → Prop) → Prop
/-- what is wanted behind a statement -/
structure Ends where
  nx : St → Hp → Prop
  rt : VK
  bk : St → Hp → Prop := fun _ _ => False
  ct : St → Hp → Prop := fun _ _ => False
abbrev TS := Ends → St → Hp → Prop

def EP (X : Cx) (pins : List (Addr × Obj)) (σ : St) (Q : VK) (u : Value) (s' : Shared) : Prop := ∃ v H', Inv X pins σ H' s' ∧ RelV v u ∧ Q v H'
def TP (X : Cx) (pins : List (Addr × Obj)) (σ : St) (Q : Bool → Hp → Prop) (b : Bool) (s' : Shared) : Prop := ∃ H', Inv X pins σ H' s' ∧ Q b H'
def AP (X : Cx) (pins : List (Addr × Obj)) (σ : St) (Q : List V → Hp → Prop) (us : List Value) (s' : Shared) : Prop := ∃ vs H', Inv X pins σ H' s' ∧ Vals vs us ∧ Q vs H'
def SP (X : Cx) (pins : List (Addr × Obj)) (D : Ends) (f : Flow) (s' : Shared) : Prop :=
  match f with
  | .next => ∃ σ' H', Inv X pins σ' H' s' ∧ D.nx σ' H'
  | .brk => ∃ σ' H', Inv X pins σ' H' s' ∧ D.bk σ' H'
  | .cont => ∃ σ' H', Inv X pins σ' H' s' ∧ D.ct σ' H'
  | .ret u => ∃ v σ' H', Inv X pins σ' H' s' ∧ RelV v u ∧ D.rt v H'

def PE (X : Cx) (e : Expr) (t : TE) : Prop :=
  ∀ (pins : List (Addr × Obj)) (s : Shared) (σ : St) (H : Hp) (Q : VK), Inv X pins σ H s → t σ H Q → wpAny (model X.prog X.w) X.A (eval e X.env) (EP X pins σ Q) X.xe s
def PT (X : Cx) (e : Expr) (t : TT) : Prop :=
  ∀ (pins : List (Addr × Obj)) (s : Shared) (σ : St) (H : Hp) (Q : Bool → Hp → Prop), Inv X pins σ H s → t σ H Q → wpAny (model X.prog X.w) X.A (isTrue e X.env (eval e X.env)) (TP X pins σ Q) X.xe s
/-- a test whatever its 'whole' is (and, or) -/
def PW (X : Cx) (e : Expr) (t : TT) : Prop :=
  ∀ (whole : Sem Value) (pins : List (Addr × Obj)) (s : Shared) (σ : St) (H : Hp) (Q : Bool → Hp → Prop), Inv X pins σ H s → t σ H Q → wpAny (model X.prog X.w) X.A (isTrue e X.env whole) (TP X pins σ Q) X.xe s
theorem PW.pt {X : Cx} {e : Expr} {t : TT} (h : PW X e t) : PT X e t := h _
/-- an argument list (no star), from the left -/
def PA (X : Cx) (es : List Expr) (t : TA) : Prop :=
  ∀ (pos : Pos) (pins : List (Addr × Obj)) (s : Shared) (σ : St) (H : Hp) (Q : List V → Hp → Prop), Inv X pins σ H s → t σ H Q → wpAny (model X.prog X.w) X.A (spliced (backTo pos (starEach es X.env))) (AP X pins σ Q) X.xe s
def PS (X : Cx) (st : Stmt) (t : TS) : Prop :=
  ∀ (pins : List (Addr × Obj)) (s : Shared) (σ : St) (H : Hp) (D : Ends), Inv X pins σ H s → t D σ H → wpAny (model X.prog X.w) X.A (exec st X.env) (SP X pins D) X.xe s
def PSs (X : Cx) (st : List Stmt) (t : TS) : Prop :=
  ∀ (pins : List (Addr × Obj)) (s : Shared) (σ : St) (H : Hp) (D : Ends), Inv X pins σ H s → t D σ H → wpAny (model X.prog X.w) X.A (execs st X.env) (SP X pins D) X.xe s
/-- weaken the end -/
theorem thn {α : Type} {t : Sem α} {Q Q' : α → Shared → Prop} {M : Model} {A : Around} {E : Value → Shared → Prop} {s : Shared} (h : wpAny M A t Q E s) (hQ : ∀ a s, Q a s → Q' a s) : wpAny M A t Q' E s := wpAny_mono h hQ fun _ _ x => x
end L2

namespace L2
open PySem PySem.Spec PyProof.Rows
section
variable {X : Cx}

/-- two expressions in a row -/
theorem bin {a b : Expr} {ta tb : TE} (ha : PE X a ta) (hb : PE X b tb) {pins : List (Addr × Obj)} {s : Shared} {σ : St} {H : Hp} {R : V → V → Hp → Prop} (I : Inv X pins σ H s) (h : ta σ H fun x H1 => tb σ H1 fun y H2 => R x y H2)
    {α : Type} {Q : α → Shared → Prop} {f : Value → Value → Sem α}
    (hf : ∀ v u s2 x y H2, Inv X pins σ H2 s2 → RelV x v → RelV y u → R x y H2 → wpAny (model X.prog X.w) X.A (f v u) Q X.xe s2) :
    wpAny (model X.prog X.w) X.A (eval a X.env) (fun v s₁ => wpAny (model X.prog X.w) X.A (eval b X.env) (fun u s₂ => wpAny (model X.prog X.w) X.A (f v u) Q X.xe s₂) X.xe s₁) X.xe s := by
  refine thn (ha pins s σ H _ I h) fun v s1 ⟨x, H1, I1, r1, q1⟩ => ?_
  refine thn (hb pins s1 σ H1 _ I1 q1) fun u s2 ⟨y, H2, I2, r2, q2⟩ => ?_
  exact hf v u s2 x y H2 I2 r1 r2 q2

/-! ### names and constants -/
def tVar (i : Nat) : TE := fun σ H Q => ∃ v, σ[i]? = some (some v) ∧ Q v H
def tC (v : V) : TE := fun _ H Q => Q v H
theorem pe_var {i : Nat} {x : Str} {pos : Pos} (hN : X.N[i]? = some x) (hv : Vis X.env.scope x) (hd : (x == ("__debug__" : Str)) = false := by decide) (hcd : (x == ("__classdict__" : Str)) = false := by decide) : PE X (.Name x pos) (tVar i) := by
  intro pins s σ H Q I h
  obtain ⟨v, e, h⟩ := h
  obtain ⟨m, hn, hl⟩ := I.loc
  obtain ⟨u, r, l⟩ := hl i x v hN e hv
  have fin : EP X pins σ Q u s := ⟨v, H, I, r, h⟩
  rcases l with ⟨hk, hm⟩ | ⟨hk, c, hc, hcell⟩
  · exact wpAny_Name (wpAny_loadName_local I.ok.kind hk hn hm fin) hd
  · rcases hk with hk | hk
    · exact wpAny_Name (wpAny_loadName_cell I.ok.kind hk hc hcell fin) hd
    · exact wpAny_Name (wpAny_loadName_free I.ok.kind hk hc hcell fin hcd) hd
theorem pe_int {i j pos} : PE X (.Constant (.int i) j pos) (tC (.int i)) := fun _ _ _ H _ I h => wpAny_Constant_int ⟨.int i, H, I.tok _, ⟨_, rfl⟩, h⟩
theorem pe_bl {b j pos} : PE X (.Constant (.bool b) j pos) (tC (.bl b)) := fun _ _ _ H _ I h => Constant_bool ⟨.bl b, H, I, rfl, h⟩
theorem pe_non {j pos} : PE X (.Constant .none j pos) (tC .non) := fun _ _ _ H _ I h => Constant_none ⟨.non, H, I, rfl, h⟩
theorem pe_str {x j pos} : PE X (.Constant (.str x) j pos) (tC (.str x)) := fun _ _ _ H _ I h => Calls.Constant_str ⟨.str x, H, I.tok _, ⟨_, rfl⟩, h⟩

/-- a global name of the def -/
def Gl (X : Cx) (x : Str) : Prop := X.env.kindOf x = some .globalImplicit
theorem ld_glob {E : Value → Shared → Prop} {pins : List (Addr × Obj)} {s : Shared} {σ : St} {H : Hp} {x : Str} {u : Value} {pos : Pos} {Q : Value → Shared → Prop} (I : Inv X pins σ H s) (hg : Gl X x) (hm : X.mg x = some u) (h : Q u s)
    (hd : (x == ("__debug__" : Str)) = false := by decide) : wpAny (model X.prog X.w) X.A (eval (.Name x pos) X.env) Q E s :=
  Calls.Name_function_global I.ok.kind hg (Calls.loadGlobal_global (by rw [I.ok.glob]; exact I.mod.glob.keeps I.bk) hm h) hd
theorem ld_blt {E : Value → Shared → Prop} {pins : List (Addr × Obj)} {s : Shared} {σ : St} {H : Hp} {x : Str} {u : Value} {pos : Pos} {Q : Value → Shared → Prop} (I : Inv X pins σ H s) (hg : Gl X x) (hm : X.mg x = none) (hv : bootBuiltins x = some u) (h : Q u s)
    (hn : x ≠ "__name__" := by decide) (hd : (x == ("__debug__" : Str)) = false := by decide) : wpAny (model X.prog X.w) X.A (eval (.Name x pos) X.env) Q E s := by
  obtain ⟨mb, h1, h2⟩ := I.mod.blt
  exact Calls.Name_function_global I.ok.kind hg (Calls.loadGlobal_builtin (by rw [I.ok.glob]; exact I.mod.glob.keeps I.bk) hm (by rw [I.ok.blt]; exact h1.keeps I.bk) ((h2 x hn).trans hv) h) hd
theorem pe_bltn {x : Str} {v : V} {u : Value} {pos : Pos} (hg : Gl X x) (hm : X.mg x = none) (hv : bootBuiltins x = some u) (r : RelV v u) (hn : x ≠ "__name__" := by decide) (hd : (x == ("__debug__" : Str)) = false := by decide) : PE X (.Name x pos) (tC v) :=
  fun _ _ _ H _ I h => ld_blt I hg hm hv ⟨v, H, I, r, h⟩ hn hd

/-! ### arithmetic -/
/-- two ints -/
def t2I (ta tb : TE) (k : Int → Int → Hp → Prop) : St → Hp → Prop := fun σ H => ta σ H fun x H1 => tb σ H1 fun y H2 => ∃ i j, x = .int i ∧ y = .int j ∧ k i j H2
def tAdd (ta tb : TE) : TE := fun σ H Q => t2I ta tb (fun i j H2 => Q (.int (i + j)) H2) σ H
def tSub (ta tb : TE) : TE := fun σ H Q => t2I ta tb (fun i j H2 => Q (.int (i - j)) H2) σ H
/-- the left factor below 2^64 -/
def tMul (ta tb : TE) : TE := fun σ H Q => t2I ta tb (fun i j H2 => (-(2 ^ 64) < i ∧ i < 2 ^ 64) ∧ Q (.int (i * j)) H2) σ H
variable {a b : Expr} {ta tb : TE} {pos : Pos}
/-! ### comparisons -/
def PC (X : Cx) (op : CmpOp) (a b : Expr) (t : TE) : Prop :=
  ∀ (pins : List (Addr × Obj)) (s : Shared) (σ : St) (H : Hp) (Q : VK), Inv X pins σ H s → t σ H Q →
    wpAny (model X.prog X.w) X.A (eval a X.env) (fun v s₁ => wpAny (model X.prog X.w) X.A (eval b X.env) (fun u s₂ => wpAny (model X.prog X.w) X.A (compareOp op v u) (EP X pins σ Q) X.xe s₂) X.xe s₁) X.xe s
def tCmp (p : Int → Int → Bool) (ta tb : TE) : TE := fun σ H Q => t2I ta tb (fun i j H2 => Q (.bl (p i j)) H2) σ H
abbrev tLt : TE → TE → TE := tCmp fun i j => decide (i < j)
abbrev tLe : TE → TE → TE := tCmp fun i j => decide (i ≤ j)
abbrev tGt : TE → TE → TE := tCmp fun i j => decide (j < i)
abbrev tGe : TE → TE → TE := tCmp fun i j => decide (j ≤ i)
abbrev tEqI : TE → TE → TE := tCmp fun i j => decide (i = j)
abbrev tNeI : TE → TE → TE := tCmp fun i j => !decide (i = j)
/-- is None -/
def tIsN (ta : TE) : TE := fun σ H Q => ta σ H fun x H1 => Q (.bl (decide (x = .non))) H1
def tNotN (ta : TE) : TE := fun σ H Q => ta σ H fun x H1 => Q (.bl (!decide (x = .non))) H1
/-- a comparison as a value, as a test -/
def tB (t : TE) : TT := fun σ H Q => t σ H fun x H1 => ∃ c, x = .bl c ∧ Q c H1
theorem pe_cmp {op : CmpOp} {t : TE} (h : PC X op a b t) (h1 : behindInMarks op b = false := by first | exact nobehind _ (by decide) (by decide) | rfl) : PE X (.Compare a [op] [b] pos) t := fun pins s σ H Q I hw => wpAny_Compare1 (h pins s σ H Q I hw) h1
theorem pt_cmp {op : CmpOp} {t : TE} (h : PC X op a b t) (h1 : behindInMarks op b = false := by first | exact nobehind _ (by decide) (by decide) | rfl) : PT X (.Compare a [op] [b] pos) (tB t) := by
  intro pins s σ H Q I hw
  refine wpAny_isTrue_Compare1 (thn (h pins s σ H _ I hw) fun v s1 h1 => thn h1 fun u s2 h2 => thn h2 fun c s3 ⟨x, H1, I1, r1, q1⟩ => ?_) h1
  obtain ⟨d, rfl, q⟩ := q1
  cases r1
  exact wpAny_truthy_bool ⟨H1, I1, q⟩
/-- an expression whose value is a bool, as a test -/
theorem pt_val {e : Expr} {t : TE} (h : PE X e t) (he : ∀ whole, isTrue e X.env whole = (do let v ← whole; standAt e.pos; holding [v] (truthy v)) := by intro _; rfl) : PT X e (tB t) := by
  intro pins s σ H Q I hw
  refine isTrue_plain (thn (h pins s σ H _ I hw) fun v s1 ⟨x, H1, I1, r1, q1⟩ => ?_) (he _)
  obtain ⟨d, rfl, q⟩ := q1
  cases r1
  exact wpAny_truthy_bool ⟨H1, I1, q⟩

/-! ### and, or, not -/
variable {tA tB' : TT} {rest : List Expr}
def tAnd (t u : TT) : TT := fun σ H Q => t σ H fun c H1 => if c = true then u σ H1 Q else Q false H1
def tOr (t u : TT) : TT := fun σ H Q => t σ H fun c H1 => if c = true then Q true H1 else u σ H1 Q
def tNot (t : TT) : TT := fun σ H Q => t σ H fun c H1 => Q (!c) H1
theorem pw_and1 (ha : PT X a tA) : PW X (.BoolOp .And [a] pos) tA := by
  intro wh pins s σ H Q I h
  refine isTrue_and (thn (ha pins s σ H Q I h) fun c s1 e => ?_)
  cases c with
  | true => exact isTrue_and_nil e
  | false => exact e
theorem pw_or1 (ha : PT X a tA) : PW X (.BoolOp .Or [a] pos) tA := by
  intro wh pins s σ H Q I h
  refine isTrue_or (thn (ha pins s σ H Q I h) fun c s1 e => ?_)
  cases c with
  | false => exact isTrue_or_nil e
  | true => exact e
theorem pw_and (ha : PT X a tA) (hb : PW X (.BoolOp .And (b :: rest) pos) tB') : PW X (.BoolOp .And (a :: b :: rest) pos) (tAnd tA tB') := by
  intro wh pins s σ H Q I h
  refine isTrue_and (thn (ha pins s σ H _ I h) fun c s1 ⟨H1, I1, q1⟩ => ?_)
  cases c with
  | true => exact hb wh pins s1 σ H1 Q I1 q1
  | false => exact ⟨H1, I1, q1⟩
theorem pw_or (ha : PT X a tA) (hb : PW X (.BoolOp .Or (b :: rest) pos) tB') : PW X (.BoolOp .Or (a :: b :: rest) pos) (tOr tA tB') := by
  intro wh pins s σ H Q I h
  refine isTrue_or (thn (ha pins s σ H _ I h) fun c s1 ⟨H1, I1, q1⟩ => ?_)
  cases c with
  | true => exact ⟨H1, I1, q1⟩
  | false => exact hb wh pins s1 σ H1 Q I1 q1
theorem pt_not (ha : PT X a tA) : PT X (.UnaryOp .Not a pos) (tNot tA) := by
  intro pins s σ H Q I h
  exact isTrue_not (ha pins s σ H (fun c H1 => Q (!c) H1) I h)
/-- .. as values (bools) -/
def tAndV (ta tb : TE) : TE := fun σ H Q => ta σ H fun x H1 => ∃ c, x = .bl c ∧ if c = true then tb σ H1 Q else Q (.bl false) H1
def tOrV (ta tb : TE) : TE := fun σ H Q => ta σ H fun x H1 => ∃ c, x = .bl c ∧ if c = true then Q (.bl true) H1 else tb σ H1 Q
def tNotV (ta : TE) : TE := fun σ H Q => ta σ H fun x H1 => ∃ c, x = .bl c ∧ Q (.bl (!c)) H1
theorem pe_one {op} {t : TE} (h : PE X a t) : PE X (.BoolOp op [a] pos) t := fun pins s σ H Q I hw => BoolOp_one (h pins s σ H Q I hw)
theorem pe_and (ha : PE X a ta) (hb : PE X (.BoolOp .And (b :: rest) pos) tb) : PE X (.BoolOp .And (a :: b :: rest) pos) (tAndV ta tb) := by
  intro pins s σ H Q I h
  refine BoolOp_and (thn (ha pins s σ H _ I h) fun v s1 ⟨x, H1, I1, r1, q1⟩ => ?_)
  obtain ⟨c, rfl, q1⟩ := q1
  cases r1
  refine wpAny_truthy_bool ?_
  cases c with
  | true => exact hb pins s1 σ H1 Q I1 q1
  | false => exact ⟨.bl false, H1, I1, rfl, q1⟩
theorem pe_not (ha : PE X a ta) : PE X (.UnaryOp .Not a pos) (tNotV ta) := by
  intro pins s σ H Q I h
  refine UnaryOp_ (thn (ha pins s σ H _ I h) fun v s1 ⟨x, H1, I1, r1, q1⟩ => ?_)
  obtain ⟨c, rfl, q1⟩ := q1
  cases r1
  exact not_of (wpAny_truthy_bool ⟨.bl (!c), H1, I1, rfl, q1⟩)
/-- a if t else b -/
def tIf (t : TT) (ta tb : TE) : TE := fun σ H Q => t σ H fun c H1 => if c = true then ta σ H1 Q else tb σ H1 Q
theorem pe_ifExp {c : Expr} (hc : PT X c tA) (ha : PE X a ta) (hb : PE X b tb) : PE X (.IfExp c a b pos) (tIf tA ta tb) := by
  intro pins s σ H Q I h
  refine wpAny_IfExp (thn (hc pins s σ H _ I h) fun d s1 ⟨H1, I1, q1⟩ => ?_)
  cases d with
  | true => exact ha pins s1 σ H1 Q I1 q1
  | false => exact hb pins s1 σ H1 Q I1 q1
end
end L2

namespace L2
open PySem PySem.Spec PyProof.Rows

/-! ### a list, a tuple that is read: tracked, frozen, or an object of the module -/
def SqL (K : PySem.W.Frag) (H : Hp) (a : Addr) (xs : List V) : Prop :=
  Rd H a (.lst xs) ∨
    ∃ (o : Obj) (its : Array Value) (n : Nat), K.lookup a = some o ∧ o.cls = .type "list" ∧ o.dict = none ∧ o.data = .seq its n ∧ its.size ≤ sizeLine ∧ Vals xs its.toList
def SqT (K : PySem.W.Frag) (H : Hp) (a : Addr) (xs : List V) : Prop :=
  Rd H a (.tup xs) ∨
    ∃ (o : Obj) (its : Array Value) (n : Nat), K.lookup a = some o ∧ o.cls = .type "tuple" ∧ o.data = .seq its n ∧ its.size ≤ sizeLine ∧ Vals xs its.toList
def absV : Value → Option V
  | .none => some .non
  | .bool b => some (.bl b)
  | .int i _ => some (.int i)
  | .str x _ => some (.str x)
  | .bytes b _ => some (.byt b)
  | .float b _ => some (.flt b)
  | .ref a => some (.ref a)
  | .type n => some (.ty n)
  | _ => none
theorem RelV.abs {x : V} {u : Value} (r : RelV x u) : absV u = some x := by
  cases x with
  | non => cases r; rfl
  | bl _ => cases r; rfl
  | int _ => obtain ⟨t, rfl⟩ := r; rfl
  | str _ => obtain ⟨t, rfl⟩ := r; rfl
  | byt _ => obtain ⟨t, rfl⟩ := r; rfl
  | flt _ => obtain ⟨t, rfl⟩ := r; rfl
  | ref _ => cases r; rfl
  | ty _ => cases r; rfl
theorem RelV.inj {x y : V} {u : Value} (r : RelV x u) (q : RelV y u) : x = y := Option.some.inj (r.abs.symm.trans q.abs)
theorem Vals.inj : ∀ {xs ys : List V} {us : List Value}, Vals xs us → Vals ys us → xs = ys
  | _, _, _, .nil, .nil => rfl
  | _, _, _, .cons r t, .cons r' t' => by rw [r.inj r', Vals.inj t t']
section
variable {X : Cx} {pins : List (Addr × Obj)} {σ : St} {H : Hp} {s : Shared} {a : Addr} {xs ys : List V}
theorem SqL.of {K : PySem.W.Frag} (h : H a = some (.lst xs)) : SqL K H a xs := .inl (.inl h)
theorem SqT.of {K : PySem.W.Frag} (h : H a = some (.tup xs)) : SqT K H a xs := .inl (.inl h)
theorem Inv.list (I : Inv X pins σ H s) (h : SqL X.K H a xs) : ∃ its : List Value, Vals xs its ∧ PlainL s.heap a its.toArray ∧ xs.length ≤ sizeLine := by
  rcases h with h | ⟨o, its, n, hk, hc, hd, hs, hz, r⟩
  · obtain ⟨z, its, n, r, e⟩ := h.ok I.hok
    exact ⟨its, r, ⟨_, n, e, rfl, rfl, rfl⟩, z⟩
  · refine ⟨its.toList, r, ⟨o, n, I.kIn a o hk, hc, hd, by simpa using hs⟩, ?_⟩
    have e := r.length
    simp only [Array.length_toList] at e
    omega
theorem Inv.tuple (I : Inv X pins σ H s) (h : SqT X.K H a xs) : ∃ its : List Value, Vals xs its ∧ IsTup s.heap a its.toArray ∧ xs.length ≤ sizeLine := by
  rcases h with h | ⟨o, its, n, hk, hc, hs, hz, r⟩
  · obtain ⟨z, its, r, p⟩ := h.ok I.hok
    exact ⟨its, r, p, z⟩
  · refine ⟨its.toList, r, ⟨o, I.kIn a o hk, hc, n, by simpa using hs⟩, ?_⟩
    have e := r.length
    simp only [Array.length_toList] at e
    omega
theorem Inv.list_inj (I : Inv X pins σ H s) (h : SqL X.K H a xs) (h' : SqL X.K H a ys) : xs = ys := by
  obtain ⟨its, r, ⟨o, n, e, _, _, d⟩, _⟩ := I.list h
  obtain ⟨its', r', ⟨o', n', e', _, _, d'⟩, _⟩ := I.list h'
  rw [e] at e'; cases e'
  rw [d] at d'
  injection d' with d1 _
  have : its = its' := by simpa using congrArg Array.toList d1
  subst this
  exact r.inj r'
theorem Inv.tuple_inj (I : Inv X pins σ H s) (h : SqT X.K H a xs) (h' : SqT X.K H a ys) : xs = ys := by
  obtain ⟨its, r, ⟨o, e, _, n, d⟩, _⟩ := I.tuple h
  obtain ⟨its', r', ⟨o', e', _, n', d'⟩, _⟩ := I.tuple h'
  rw [e] at e'; cases e'
  rw [d] at d'
  injection d' with d1 _
  have : its = its' := by simpa using congrArg Array.toList d1
  subst this
  exact r.inj r'
end

/-! ### another wish about exceptions -/
abbrev Cx.wish (X : Cx) (E : Value → Shared → Prop) : Cx := { X with xe := E }
/-- no exception leaves -/
abbrev Cx.nox (X : Cx) : Cx := X.wish fun _ _ => False
theorem Cx.Ok.wish {X : Cx} (ok : X.Ok) (E : Value → Shared → Prop) : (X.wish E).Ok :=
  ⟨ok.mod, ok.kind, ok.glob, ok.blt, ok.above, ok.inj, ok.has, ok.cab, ok.hd, ok.frames, ok.stk, ok.exf, ok.bs, ok.bsz, ok.noex, ok.exfs, ok.funs, ok.frf⟩
theorem Cx.Ok.unwish {X : Cx} {E : Value → Shared → Prop} (ok : (X.wish E).Ok) : X.Ok :=
  ⟨ok.mod, ok.kind, ok.glob, ok.blt, ok.above, ok.inj, ok.has, ok.cab, ok.hd, ok.frames, ok.stk, ok.exf, ok.bs, ok.bsz, ok.noex, ok.exfs, ok.funs, ok.frf⟩
section
variable {X : Cx} {pins : List (Addr × Obj)} {σ : St} {H : Hp} {s : Shared} {E : Value → Shared → Prop}
theorem Inv.wish (I : Inv X pins σ H s) (E : Value → Shared → Prop) : Inv (X.wish E) pins σ H s := ⟨I.ok.wish E, I.os, I.bare, I.base, I.loc, I.cell, I.free, I.freeC, I.pin, I.hok, I.len⟩
theorem Inv.unwish (I : Inv (X.wish E) pins σ H s) : Inv X pins σ H s := ⟨I.ok.unwish, I.os, I.bare, I.base, I.loc, I.cell, I.free, I.freeC, I.pin, I.hok, I.len⟩
theorem SP.unwish {D : Ends} {f : Flow} {s' : Shared} (h : SP (X.wish E) pins D f s') : SP X pins D f s' := by
  cases f with
  | next => obtain ⟨σ', H', I, q⟩ := h; exact ⟨σ', H', I.unwish, q⟩
  | brk => obtain ⟨σ', H', I, q⟩ := h; exact ⟨σ', H', I.unwish, q⟩
  | cont => obtain ⟨σ', H', I, q⟩ := h; exact ⟨σ', H', I.unwish, q⟩
  | ret u => obtain ⟨v, σ', H', I, r, q⟩ := h; exact ⟨v, σ', H', I.unwish, r, q⟩
theorem PSs.nox {st : List Stmt} {t : TS} (h : PSs X.nox st t) : PSs X st t := fun pins s σ H D I hw =>
  wpAny_mono (h pins s σ H D (I.wish _) hw) (fun _ _ q => q.unwish) fun _ _ z => False.elim z
end

/-! ### blocks and small statements -/
section
variable {X : Cx} {st : Stmt} {rest : List Stmt} {t u : TS} {e : Expr} {te : TE} {pos : Pos}
def tNext : TS := fun D σ H => D.nx σ H
def tSeq (t u : TS) : TS := fun D σ H => t { D with nx := u D } σ H
theorem pss_nil : PSs X [] tNext := fun _ _ σ H _ I h => wpAny_execs_nil ⟨σ, H, I, h⟩
theorem pss_cons (h1 : PS X st t) (h2 : PSs X rest u) : PSs X (st :: rest) (tSeq t u) := by
  intro pins s σ H D I h
  refine wpAny_execs_cons (thn (h1 pins s σ H { D with nx := u D } I h) fun f s1 q => ?_)
  cases f with
  | next =>
    obtain ⟨σ', H', I', q⟩ := q
    exact h2 pins s1 σ' H' D I' q
  | ret v => exact q
  | brk => exact q
  | cont => exact q
theorem pss_one (h1 : PS X st t) : PSs X [st] t := by
  intro pins s σ H D I h
  refine wpAny_execs_cons (thn (h1 pins s σ H D I h) fun f s1 q => ?_)
  cases f with
  | next => exact wpAny_execs_nil q
  | ret v => exact q
  | brk => exact q
  | cont => exact q
def tBreak : TS := fun D σ H => D.bk σ H
def tCont : TS := fun D σ H => D.ct σ H
/-- in a def's body nothing is shown -/
theorem Inv.quiet {pins : List (Addr × Obj)} {σ : St} {H : Hp} {s : Shared} (I : Inv X pins σ H s) : interactive X.env = false := by simp [interactive, I.ok.kind]
/-- an expression whose value is dropped -/
def tDrop (te : TE) : TS := fun D σ H => te σ H fun _ H1 => D.nx σ H1
theorem ps_expr (he : PE X e te) (hs : swapsWith e none pos.line X.env = pure false := by rfl) : PS X (.Expr e pos) (tDrop te) := by
  intro pins s σ H D I h
  exact wpAny_Expr_any (thn (he pins s σ H _ I h) fun v s1 ⟨x, H1, I1, r1, q1⟩ => ⟨σ, H1, I1, q1⟩) I.quiet hs
def tRet (te : TE) : TS := fun D σ H => te σ H D.rt
theorem ps_ret (he : PE X e te) : PS X (.Return (some e) pos) (tRet te) := by
  intro pins s σ H D I h
  exact wpAny_Return_some (thn (he pins s σ H _ I h) fun v s1 ⟨x, H1, I1, r1, q1⟩ => ⟨x, σ, H1, I1, r1, q1⟩)
def tRetN : TS := fun D _ H => D.rt .non H
def tIfS (c : TT) (t u : TS) : TS := fun D σ H => c σ H fun b H1 => if b = true then t D σ H1 else u D σ H1
theorem ps_if {c : Expr} {a b : List Stmt} {tc : TT} (hc : PT X c tc) (ha : PSs X a t) (hb : PSs X b u) : PS X (.If c a b pos) (tIfS tc t u) := by
  intro pins s σ H D I h
  refine wpAny_If (thn (hc pins s σ H _ I h) fun d s1 ⟨H1, I1, q1⟩ => ?_)
  cases d with
  | true => exact ha pins s1 σ H1 D I1 q1
  | false => exact hb pins s1 σ H1 D I1 q1
/-- code that the proof never comes to -/
def tNever : TS := fun _ _ _ => False
end

/-! ### targets -/
abbrev TG := V → St → Hp → (St → Hp → Prop) → Prop
abbrev TGs := List V → St → Hp → (St → Hp → Prop) → Prop
def PG (X : Cx) (target : Expr) (t : TG) : Prop :=
  ∀ (pins : List (Addr × Obj)) (s : Shared) (σ : St) (H : Hp) (v : V) (u : Value) (Q : St → Hp → Prop), Inv X pins σ H s → RelV v u → t v σ H Q →
    wpAny (model X.prog X.w) X.A (assign target X.env u) (fun _ s' => ∃ σ' H', Inv X pins σ' H' s' ∧ Q σ' H') X.xe s
/-- several targets, one after another -/
def PGs (X : Cx) (ts : List Expr) (t : TGs) : Prop :=
  ∀ (pins : List (Addr × Obj)) (s : Shared) (σ : St) (H : Hp) (vs : List V) (us : List Value) (Q : St → Hp → Prop), Inv X pins σ H s → Vals vs us → t vs σ H Q →
    wpAny (model X.prog X.w) X.A (assignInOrder ((assignEach ts X.env).map (·.2)) us) (fun _ s' => ∃ σ' H', Inv X pins σ' H' s' ∧ Q σ' H') X.xe s
/-- o[i] = v, by values -/
abbrev TSet := V → V → V → Hp → (Hp → Prop) → Prop
def PSet (X : Cx) (t : TSet) : Prop :=
  ∀ (pins : List (Addr × Obj)) (s : Shared) (σ : St) (H : Hp) (o i v : V) (ov iv u : Value) (Q : Hp → Prop), Inv X pins σ H s → RelV o ov → RelV i iv → RelV v u → t o i v H Q →
    wpAny (model X.prog X.w) X.A (setItem ov iv u) (fun _ s' => ∃ H', Inv X pins σ H' s' ∧ Q H') X.xe s
/-- a op= b, by values -/
abbrev TIp := V → V → Hp → VK → Prop
def PIp (X : Cx) (op : Operator) (t : TIp) : Prop :=
  ∀ (pins : List (Addr × Obj)) (s : Shared) (σ : St) (H : Hp) (x y : V) (v u : Value) (Q : VK), Inv X pins σ H s → RelV x v → RelV y u → t x y H Q →
    wpAny (model X.prog X.w) X.A (inplaceOp op v u) (EP X pins σ Q) X.xe s
section
variable {X : Cx} {pos : Pos}
def gName (i : Nat) : TG := fun v σ H Q => Q (σ.set i (some v)) H
theorem pg_name {i : Nat} {x : Str} (hN : X.N.Nodup) (hi : X.N[i]? = some x) (hx : Loc X.env.scope x) (hf : X.fn x = true ∨ X.env.scope.names.lookup x = some .local := by first | exact .inl rfl | exact .inr rfl | assumption) : PG X (.Name x pos) (gName i) := by
  intro pins s σ H v u Q I r h
  exact wpAny_assign_Name (store_ok I hN hi hx r (fun s' I' => ⟨_, H, I', h⟩) hf)
def gNil : TGs := fun vs σ H Q => vs = [] ∧ Q σ H
def gCons (t : TG) (u : TGs) : TGs := fun vs σ H Q => ∃ v r, vs = v :: r ∧ t v σ H fun σ' H' => u r σ' H' Q
theorem pgs_nil : PGs X [] gNil := by
  intro pins s σ H vs us Q I r h
  obtain ⟨e, h⟩ := h
  subst e
  cases r
  exact assignInOrder_nil ⟨σ, H, I, h⟩
theorem pgs_cons {e : Expr} {es : List Expr} {t : TG} {u : TGs} (h1 : PG X e t) (h2 : PGs X es u)
    (hs : (assignEach (e :: es) X.env).map (·.2) = assign e X.env :: (assignEach es X.env).map (·.2) := by rfl) : PGs X (e :: es) (gCons t u) := by
  intro pins s σ H vs us Q I r h
  obtain ⟨v, vr, e1, h⟩ := h
  subst e1
  cases r with
  | cons r rr =>
    rw [hs]
    refine assignInOrder_cons (thn (h1 pins s σ H _ _ _ I r h) fun _ s1 ⟨σ1, H1, I1, q1⟩ => ?_)
    exact h2 pins s1 σ1 H1 _ _ Q I1 rr q1
/-- (a, b, ..) = a tuple of that length -/
def gTup (K : PySem.W.Frag) (n : Nat) (t : TGs) : TG := fun v σ H Q => ∃ a xs, v = .ref a ∧ SqT K H a xs ∧ xs.length = n ∧ t xs σ H Q
theorem pg_tup {es : List Expr} {k : Nat} {t : TGs} {n : Nat} (hc : X.calm = true) (h : PGs X es t)
    (hn : (assignEach es X.env).length = n := by rfl) (hst : (assignEach es X.env).findIdx? (·.1) = none := by rfl) : PG X (.Tuple es k pos) (gTup X.K n t) := by
  intro pins s σ H v u Q I r hw
  obtain ⟨a, xs, e1, hq, hl, hw⟩ := hw
  subst e1
  cases r
  obtain ⟨its, rv, ht, hz⟩ := I.tuple hq
  refine assign_Tuple_tuple (I.ok.hd hc) ht (by simp [hn, ← hl, rv.length]) hst fun h' hx => ?_
  have I1 : Inv X pins σ H { s with heap := h' } := I.kept (t' := s.toks) fun b o e => hx b o (Nat.ne_of_lt (Heap.lt_size e)) e
  exact h pins _ σ H xs _ Q I1 (by simpa using rv) hw
/-- o[i] = .. -/
def gSub (to ti : TE) (t : TSet) : TG := fun v σ H Q => to σ H fun o H1 => ti σ H1 fun i H2 => t o i v H2 fun H3 => Q σ H3
theorem pg_sub {o i : Expr} {to ti : TE} {t : TSet} (ho : PE X o to) (hi : PE X i ti) (hs : PSet X t)
    (ha : ∀ v, assign (.Subscript o i pos) X.env v = (do
      let ov ← holding [v] (eval o X.env)
      let iv ← holding [v, ov] (eval i X.env)
      standAt pos
      holding [v, ov, iv] (setItem ov iv v)
      release [v, ov, iv] []) := by intro _; rfl) : PG X (.Subscript o i pos) (gSub to ti t) := by
  intro pins s σ H v u Q I r h
  rw [ha]
  refine wpAny_bind (wpAny_holding (thn (ho pins s σ H _ I h) fun ov s1 ⟨x, H1, I1, r1, q1⟩ => ?_))
  refine wpAny_bind (wpAny_holding (thn (hi pins s1 σ H1 _ I1 q1) fun iv s2 ⟨y, H2, I2, r2, q2⟩ => ?_))
  refine wpAny_bind (wpAny_standAt (wpAny_bind (wpAny_holding (thn (hs pins s2 σ H2 x y v ov iv u _ I2 r1 r2 r q2) fun _ s3 ⟨H3, I3, q3⟩ => ?_))))
  exact wpAny_release ⟨σ, H3, I3, q3⟩
/-- target = value -/
def tAsg (te : TE) (g : TG) : TS := fun D σ H => te σ H fun x H1 => g x σ H1 D.nx
theorem ps_asg {tg e : Expr} {te : TE} {g : TG} (he : PE X e te) (hg : PG X tg g) (hs : swapsWithSole [tg] e pos.line X.env = pure false := by rfl) (hw : swappedStores [tg] e X.env = pure none := by rfl)
    (h1 : (assignEach [tg] X.env).map (·.2) = [assign tg X.env] := by rfl) : PS X (.Assign [tg] e pos) (tAsg te g) := by
  intro pins s σ H D I h
  refine wpAny_Assign_stores (thn (he pins s σ H _ I h) fun v s1 ⟨x, H1, I1, r1, q1⟩ => ?_) hs hw
  rw [h1]
  exact thn (hg pins s1 σ H1 x v _ I1 r1 q1) fun _ s2 q => q
/-- name = value -/
theorem ps_set {i : Nat} {x : Str} {e : Expr} {te : TE} {pos' : Pos} (hN : X.N.Nodup) (hi : X.N[i]? = some x) (hx : Loc X.env.scope x) (he : PE X e te) (hs : swapsWith e (some (.Name x pos')) pos.line X.env = pure false := by rfl) (hf : X.fn x = true ∨ X.env.scope.names.lookup x = some .local := by first | exact .inl rfl | exact .inr rfl | assumption) :
    PS X (.Assign [.Name x pos'] e pos) (tAsg te (gName i)) := by
  intro pins s σ H D I h
  refine wpAny_Assign_Name (thn (he pins s σ H _ I h) fun v s1 ⟨y, H1, I1, r1, q1⟩ => ?_) hs
  exact store_ok I1 hN hi hx r1 (fun s2 I2 => ⟨_, H1, I2, q1⟩) hf
/-- a, b = x, y with plain local names: stored from the right; the pair itself is not tracked (the opening rows as in PyProof/Rows/TupAssign.lean:23) -/
def tPar (i j : Nat) (ta : TA) : TS := fun D σ H => ta σ H fun vs H1 => ∃ v w, vs = [v, w] ∧ D.nx ((σ.set i (some v)).set j (some w)) H1
theorem ps_par {i j : Nat} {x y : Str} {a b : Expr} {ta : TA} {px py pt : Pos} {kt k2 pt2} (hc : X.calm = true) (hN : X.N.Nodup) (hi : X.N[i]? = some x) (hj : X.N[j]? = some y) (hij : i ≠ j)
    (hx : X.env.scope.names.lookup x = some .local) (hy : X.env.scope.names.lookup y = some .local) (ha : PA X [a, b] ta)
    (hw : swappedStores [.Tuple [.Name x px, .Name y py] kt pt] (.Tuple [a, b] k2 pt2) X.env = pure (some [x, y]))
    (hs : swapsWithSole [.Tuple [.Name x px, .Name y py] kt pt] (.Tuple [a, b] k2 pt2) pos.line X.env = pure false := by rfl) :
    PS X (.Assign [.Tuple [.Name x px, .Name y py] kt pt] (.Tuple [a, b] k2 pt2) pos) (tPar i j ta) := by
  intro pins s σ H D I h
  rw [exec_Assign_arm]
  refine wpAny_bind (wpAny_standAt ?_)
  rw [hs]
  refine wpAny_bind (wpAny_pure ?_)
  rw [if_neg (by decide)]
  refine wpAny_bind (Tuple_ (thn (ha _ pins s σ H _ I h) fun us s1 ⟨vs, H1, I1, r1, q1⟩ => ?_))
  obtain ⟨v, w, e1, q1⟩ := q1
  subst e1
  obtain ⟨u1, u2, rfl, rv, rw'⟩ : ∃ u1 u2, us = [u1, u2] ∧ RelV v u1 ∧ RelV w u2 := by
    cases r1 with
    | cons p q =>
      cases q with
      | cons p' q' =>
        cases q'
        exact ⟨_, _, rfl, p, p'⟩
  refine wpAny_newObj_type ?_ (by show 2 ≤ sizeLine; decide)
  have I2 : Inv X pins σ H1 { s1 with heap := s1.heap.push { cls := .type "tuple", data := .seq [u1, u2].toArray } } := I1.kept (t' := s1.toks) fun b o e => Heap.get?_push_of_some _ e
  rw [hw]
  refine wpAny_bind (wpAny_pure ?_)
  show wpAny (model X.prog X.w) X.A (do rule "assign.swapped-stores"; let items ← unpackItems (.ref s1.heap.objs.size) 2 none; assignInOrder [fun v => bindName X.env y v, fun v => bindName X.env x v] items.reverse; pure Flow.next) _ _ _
  refine wpAny_bind (wpAny_rule (wpAny_bind (unpackItems_tuple (items := #[u1, u2]) (I.ok.hd hc) (IsTup.new s1.heap _) fun h' hx' => ?_)))
  have I3 := I2.kept (h' := h') (t' := s1.toks) fun b o e => hx' b o (Nat.ne_of_lt (Heap.lt_size e)) e
  show wpAny _ _ (assignInOrder [fun v => bindName X.env y v, fun v => bindName X.env x v] [u2, u1] >>= fun _ => pure Flow.next) _ _ _
  refine wpAny_bind (assignInOrder_cons (wpAny_bindName (store_ok I3 hN hj (.inl hy) rw' (fun s2 I4 => ?_) (.inr hy))))
  refine assignInOrder_cons (wpAny_bindName (store_ok I4 hN hi (.inl hx) rv (fun s3 I5 => assignInOrder_nil (wpAny_pure ?_)) (.inr hx)))
  rw [List.set_comm _ _ (Ne.symm hij)] at I5
  exact ⟨_, H1, I5, q1⟩
/-- name op= e -/
def tAug (i : Nat) (te : TE) (ti : TIp) : TS := fun D σ H => ∃ x, σ[i]? = some (some x) ∧ te σ H fun y H1 => ti x y H1 fun z H2 => D.nx (σ.set i (some z)) H2
/-- o[i] op= e -/
def tAugS (to ti te : TE) (tget : V → V → Hp → VK → Prop) (tip : TIp) (tset : TSet) : TS := fun D σ H => to σ H fun o H1 => ti σ H1 fun i H2 => tget o i H2 fun x H3 => te σ H3 fun y H4 => tip x y H4 fun z H5 => tset o i z H5 fun H6 => D.nx σ H6
/-- o[i], by values -/
def PGet (X : Cx) (t : V → V → Hp → VK → Prop) : Prop :=
  ∀ (pins : List (Addr × Obj)) (s : Shared) (σ : St) (H : Hp) (o i : V) (ov iv : Value) (Q : VK), Inv X pins σ H s → RelV o ov → RelV i iv → t o i H Q →
    wpAny (model X.prog X.w) X.A (getItem ov iv) (EP X pins σ Q) X.xe s
/-- ints -/
def ipI (f : Int → Int → Int) : TIp := fun x y H Q => ∃ i j, x = .int i ∧ y = .int j ∧ Q (.int (f i j)) H
end

/-! ### while -/
section
variable {X : Cx} {pos : Pos}
/-- the invariant W with its measure -/
def tWhile (c : TT) (tb : TS) : TS := fun D σ H => ∃ W : Nat → St → Hp → Prop, (∃ m, W m σ H) ∧ ∀ m σ H, W m σ H →
  c σ H fun b H1 => if b = true then ∃ N : St → Hp → Prop, (∀ σ' H', N σ' H' → ∃ m', m' < m ∧ W m' σ' H') ∧ tb { D with nx := N, ct := N, bk := D.nx } σ H1 else D.nx σ H1
theorem ps_while {c : Expr} {body : List Stmt} {tc : TT} {tb : TS} (hp : PassesOwn (model X.prog X.w) X.A X.env X.xe) (hc : PT X c tc) (hb : PSs X body tb) : PS X (.While c body [] pos) (tWhile tc tb) := by
  intro pins s σ H D I h
  obtain ⟨W, ⟨m0, w0⟩, turn⟩ := h
  refine wpAny_While (codeAny_whileLoop (fun n s' => ∃ σ' H', Inv X pins σ' H' s' ∧ W n σ' H') ?_ m0 ⟨σ, H, I, w0⟩)
  rintro n s1 ⟨σ1, H1, I1, w1⟩
  refine wpAny_passesOwn hp (thn (hc pins s1 σ1 H1 _ I1 (turn n σ1 H1 w1)) fun b s2 ⟨H2, I2, q2⟩ => ?_)
  cases b with
  | true =>
    obtain ⟨N, hN, q2⟩ := q2
    rw [if_pos rfl]
    refine wpAny_passesOwn hp (thn (hb pins s2 σ1 H2 _ I2 q2) fun f s3 q3 => ?_)
    cases f with
    | next =>
      obtain ⟨σ3, H3, I3, n3⟩ := q3
      obtain ⟨m', hm, w3⟩ := hN σ3 H3 n3
      exact ⟨m', hm, σ3, H3, I3, w3⟩
    | cont =>
      obtain ⟨σ3, H3, I3, n3⟩ := q3
      obtain ⟨m', hm, w3⟩ := hN σ3 H3 n3
      exact ⟨m', hm, σ3, H3, I3, w3⟩
    | brk => exact q3
    | ret v => exact q3
  | false =>
    rw [if_neg Bool.false_ne_true]
    exact wpAny_execs_nil ⟨σ1, H2, I2, q2⟩
end

/-! ### what a loop or a comprehension walks -/
/-- at turn i: it yields x (the heap may grow), or it stops -/
structure It where
  go : Nat → Hp → Prop
  yld : Nat → Hp → V → Hp → Prop
  stop : Nat → Hp → Prop
/-- the iterator's own objects may turn: they are not the frame's, not pinned, younger than the entry (or a comprehension's own) -/
def FpOk (X : Cx) (pins : List (Addr × Obj)) (H : Hp) (b : Addr) : Prop :=
  H b = none ∧ b ≠ X.env.locals ∧ b ∉ X.fs ∧ (b ∈ X.ex ∨ X.s₀.heap.objs.size ≤ b) ∧ (∀ x c, X.env.cells.lookup x = some c → c ≠ b) ∧ ∀ p ∈ X.pn ++ pins, p.1 ≠ b
theorem Inv.fpOk {X : Cx} {pins : List (Addr × Obj)} {σ : St} {H H' : Hp} {s : Shared} {b : Addr} (I : Inv X pins σ H s) (hb : s.heap.objs.size ≤ b) (hn : H' b = none) : FpOk X pins H' b := by
  refine ⟨hn, Nat.ne_of_gt (Nat.lt_of_lt_of_le I.lt hb), I.nofs hb, .inr (Nat.le_trans I.sz hb), fun x c e z => ?_, fun p hp z => ?_⟩
  · obtain ⟨v, q⟩ := I.cell x c e
    exact absurd (Nat.lt_of_lt_of_le q.lt (by rw [z]; exact hb)) (Nat.lt_irrefl _)
  · exact absurd (Nat.lt_of_lt_of_le (Heap.lt_size (I.pin p hp).1) (by rw [z]; exact hb)) (Nat.lt_irrefl _)
structure Turn (P : Program) (w : World) (K : PySem.W.Frag) (tg : Expr) (J : It) (fp : List Addr) (it : Addr) (tn : Nat → Heap → Prop) : Prop where
  mem : it ∈ fp
  obj : ∀ i h, tn i h → ∀ b ∈ fp, ∃ o, h.get? b = some o ∧ ∀ v, o.data ≠ .cell v
  keep : ∀ i h h', tn i h → (∀ b ∈ fp, ∀ o, h.get? b = some o → h'.get? b = some o) → tn i h'
  item : ∀ (X : Cx), X.prog = P → X.w = w → X.K = K → X.calm = true → ∀ (i : Nat) (pins : List (Addr × Obj)) (s : Shared) (σ : St) (H : Hp) (E : Value → Shared → Prop), Inv X pins σ H s → (∀ b ∈ fp, FpOk X pins H b) → tn i s.heap → J.go i H →
    wpAny (model P w) X.A (pyNext (.ref it)) (fun r s1 => ∃ u, r = some u ∧
      wpAny (model P w) X.A (letOwnedTupleGo tg (.ref it) u) (fun _ s2 => ∃ x H', Inv X pins σ H' s2 ∧ RelV x u ∧ J.yld i H x H' ∧ tn (i + 1) s2.heap ∧ ∀ b ∈ fp, H' b = none) E s1) E s
  done : ∀ (X : Cx), X.prog = P → X.w = w → X.K = K → X.calm = true → ∀ (i : Nat) (pins : List (Addr × Obj)) (s : Shared) (σ : St) (H : Hp) (E : Value → Shared → Prop), Inv X pins σ H s → (∀ b ∈ fp, FpOk X pins H b) → tn i s.heap → J.stop i H →
    wpAny (model P w) X.A (pyNext (.ref it)) (fun r s1 => r = none ∧ Inv X pins σ H s1) E s
  self : ∀ (A : Around) (i : Nat) (s : Shared) (Q : Value → Shared → Prop) (E : Value → Shared → Prop), tn i s.heap → Q (.ref it) s → wpAny (model P w) A (pyIter (.ref it)) Q E s
abbrev TI := St → Hp → (It → Hp → Prop) → Prop
/-- an iterator has come -/
def PIE (X : Cx) (pins : List (Addr × Obj)) (σ : St) (tg : Expr) (R : It → Hp → Prop) (itv : Value) (s2 : Shared) : Prop :=
  ∃ (it : Addr) (fp : List Addr) (tn : Nat → Heap → Prop) (J : It) (H' : Hp), itv = .ref it ∧ Inv X pins σ H' s2 ∧ Turn X.prog X.w X.K tg J fp it tn ∧ tn 0 s2.heap ∧ (∀ b ∈ fp, FpOk X pins H' b) ∧ R J H'
def PI (X : Cx) (tg iter : Expr) (wi : TI) : Prop :=
  ∀ (pins : List (Addr × Obj)) (s : Shared) (σ : St) (H : Hp) (R : It → Hp → Prop), Inv X pins σ H s → wi σ H R →
    wpAny (model X.prog X.w) X.A (eval iter X.env) (fun v s1 => wpAny (model X.prog X.w) X.A (pyIter v) (PIE X pins σ tg R) X.xe s1) X.xe s

/-- the step ahead of the store is nothing for an iterator that keeps no tuple -/
theorem go_of {M : Model} {A : Around} {E : Value → Shared → Prop} {s : Shared} {tg : Expr} {it : Addr} {u : Value} {o : Obj} {n : String} {vs : Array Value} {Q : Unit → Shared → Prop} (ho : s.heap.get? it = some o) (hc : o.cls = .type n) (hd : o.data = .fields vs)
    (hn : ["enumerate", "zip", "dict_itemiterator", "dict_reverseitemiterator", "odict_iterator", "itertools.zip_longest", "itertools.pairwise"].contains n = false) (hQ : Q () s) : wpAny M A (letOwnedTupleGo tg (.ref it) u) Q E s := by
  unfold letOwnedTupleGo
  cases tg <;> first
    | exact wpAny_pure hQ
    | (cases u <;> first
        | exact wpAny_pure hQ
        | (refine wpAny_bind (wpAny_load ho ?_)
           rw [hc, hd]
           show wpAny M A (if (["enumerate", "zip", "dict_itemiterator", "dict_reverseitemiterator", "odict_iterator", "itertools.zip_longest", "itertools.pairwise"].contains n && vs[0]? == some (rawInt _)) = true then _ else _) Q E s
           rw [if_neg (by intro h; rw [hn, Bool.false_and] at h; cases h)]
           exact wpAny_pure hQ))

/-- the list at a, as it stands at each turn (a loop may append to it) -/
def Itl (K : PySem.W.Frag) (a : Addr) : It :=
  ⟨fun i H => ∃ xs x, SqL K H a xs ∧ xs[i]? = some x, fun i H x H' => H' = H ∧ ∀ xs, SqL K H a xs → xs[i]? = some x, fun i H => ∃ xs, SqL K H a xs ∧ xs.length ≤ i⟩
def Itt (K : PySem.W.Frag) (a : Addr) : It :=
  ⟨fun i H => ∃ xs x, SqT K H a xs ∧ xs[i]? = some x, fun i H x H' => H' = H ∧ ∀ xs, SqT K H a xs → xs[i]? = some x, fun i H => ∃ xs, SqT K H a xs ∧ xs.length ≤ i⟩
/-- lo, lo + 1, .. (n of them) -/
def Itr (lo : Int) (n : Nat) : It := ⟨fun i _ => i < n, fun i H x H' => H' = H ∧ x = .int (lo + i), fun i _ => n ≤ i⟩
theorem turn_list {P : Program} {w : World} {K : PySem.W.Frag} {tg : Expr} (a it : Addr) : Turn P w K tg (Itl K a) [it] it (fun i h => h.IsListIter it a i) where
  mem := by simp
  obj := fun i h st b hb => by
    have e : b = it := by simpa using hb
    subst e
    obtain ⟨o, e, c, d⟩ := st
    exact ⟨o, e, fun v z => by rw [d] at z; cases z⟩
  keep := fun i h h' st k => st.at fun o e => k it (by simp) o e
  item := by
    intro X hP hw hK hc i pins s σ H E I hf st hg
    subst hP hw hK
    obtain ⟨xs, x, hq, hx⟩ := hg
    obtain ⟨its, rv, p, hz⟩ := I.list hq
    obtain ⟨u, hu, ru⟩ := rv.get hx
    obtain ⟨f0, f1, f2, f3, f4, f5⟩ := hf it (by simp)
    refine wpAny_pyNext_list_item st p.isList (x := u) (by simpa using hu) fun h' st' sb => ?_
    have I1 : Inv X pins σ H { s with heap := h' } := I.turned (t' := s.toks) (fun b o hb e => (sb.2 b hb).trans e) f0 f1 f3 f4 f5
    obtain ⟨o, e, c, d⟩ := id st'
    exact ⟨u, rfl, go_of (s := { s with heap := h' }) e c d (by decide) ⟨x, H, I1, ru, ⟨rfl, fun ys hy => by rw [I.list_inj hy hq]; exact hx⟩, st', fun b hb => (hf b hb).1⟩⟩
  done := by
    intro X hP hw hK hc i pins s σ H E I hf st hg
    subst hP hw hK
    obtain ⟨xs, hq, hx⟩ := hg
    obtain ⟨its, rv, p, hz⟩ := I.list hq
    obtain ⟨f0, f1, f2, f3, f4, f5⟩ := hf it (by simp)
    have hl := rv.length
    exact wpAny_pyNext_list_end (I.ok.hd hc) st p.isList (by simp; omega) fun h' eb => ⟨rfl, I.turned (t' := s.toks) (fun b o hb e => eb b o hb e) f0 f1 f3 f4 f5⟩
  self := fun _ _ _ _ _ st h => wpAny_pyIter_listiter st h
theorem turn_tuple {P : Program} {w : World} {K : PySem.W.Frag} {tg : Expr} (a it : Addr) : Turn P w K tg (Itt K a) [it] it (fun i h => h.IsTupleIter it a i) where
  mem := by simp
  obj := fun i h st b hb => by
    have e : b = it := by simpa using hb
    subst e
    obtain ⟨o, e, c, d⟩ := st
    exact ⟨o, e, fun v z => by rw [d] at z; cases z⟩
  keep := fun i h h' st k => st.at fun o e => k it (by simp) o e
  item := by
    intro X hP hw hK hc i pins s σ H E I hf st hg
    subst hP hw hK
    obtain ⟨xs, x, hq, hx⟩ := hg
    obtain ⟨its, rv, p, hz⟩ := I.tuple hq
    obtain ⟨u, hu, ru⟩ := rv.get hx
    obtain ⟨f0, f1, f2, f3, f4, f5⟩ := hf it (by simp)
    refine wpAny_pyNext_tuple_item st (show s.heap.IsTuple a its.toArray from p) (x := u) (by simpa using hu) fun h' st' sb => ?_
    have I1 : Inv X pins σ H { s with heap := h' } := I.turned (t' := s.toks) (fun b o hb e => (sb.2 b hb).trans e) f0 f1 f3 f4 f5
    obtain ⟨o, e, c, d⟩ := id st'
    exact ⟨u, rfl, go_of (s := { s with heap := h' }) e c d (by decide) ⟨x, H, I1, ru, ⟨rfl, fun ys hy => by rw [I.tuple_inj hy hq]; exact hx⟩, st', fun b hb => (hf b hb).1⟩⟩
  done := by
    intro X hP hw hK hc i pins s σ H E I hf st hg
    subst hP hw hK
    obtain ⟨xs, hq, hx⟩ := hg
    obtain ⟨its, rv, p, hz⟩ := I.tuple hq
    obtain ⟨f0, f1, f2, f3, f4, f5⟩ := hf it (by simp)
    have hl := rv.length
    exact wpAny_pyNext_tuple_end (I.ok.hd hc) st (show s.heap.IsTuple a its.toArray from p) (by simp; omega) fun h' eb => ⟨rfl, I.turned (t' := s.toks) (fun b o hb e => eb b o hb e) f0 f1 f3 f4 f5⟩
  self := fun _ _ _ _ _ st h => wpAny_pyIter_tupleiter st h
theorem turn_range {P : Program} {w : World} {K : PySem.W.Frag} {tg : Expr} (it : Addr) (lo : Int) (n : Nat) : Turn P w K tg (Itr lo n) [it] it (fun i h => IsRangeIter h it (lo + (i : Nat) * 1) ((n : Int) - (i : Nat)) 1) where
  mem := by simp
  obj := fun i h st b hb => by
    have e : b = it := by simpa using hb
    subst e
    exact ⟨_, st, fun v z => by
      have z' : Data.fields _ = Data.cell v := z
      cases z'⟩
  keep := fun i h h' st k => k it (by simp) _ st
  item := by
    intro X hP hw hK hc i pins s σ H E I hf st hg
    subst hP hw hK
    obtain ⟨f0, f1, f2, f3, f4, f5⟩ := hf it (by simp)
    have W := Walks.range (prog := X.prog) (w := X.w) (I.ok.hd hc) it lo 1 n
    refine W.item i s _ _ hg st fun v h' tk hv st' kk => ?_
    obtain ⟨t, rfl⟩ := hv
    have I1 : Inv X pins σ H { s with heap := h', toks := tk } := I.turned (fun b o hb e => kk b o (by simpa using hb) e) f0 f1 f3 f4 f5
    refine ⟨_, rfl, go_of (s := { s with heap := h', toks := tk }) (n := "range_iterator") st' rfl rfl (by decide) ⟨.int (lo + i), H, I1, ⟨t, ?_⟩, ⟨rfl, rfl⟩, st', fun b hb => (hf b hb).1⟩⟩
    rw [Int.mul_one]
  done := by
    intro X hP hw hK hc i pins s σ H E I hf st hg
    subst hP hw hK
    obtain ⟨f0, f1, f2, f3, f4, f5⟩ := hf it (by simp)
    exact wpAny_pyNext_range_end (I.ok.hd hc) st (by have : n ≤ i := hg; omega) fun h' eb => ⟨rfl, I.turned (t' := s.toks) (fun b o hb e => eb b o hb e) f0 f1 f3 f4 f5⟩
  self := fun _ _ _ _ _ st h => wpAny_pyIter_rangeiter st h
end L2

namespace L2
open PySem PySem.Spec PyProof.Rows
section
variable {X : Cx} {tg : Expr}
def iList (K : PySem.W.Frag) (tl : TE) : TI := fun σ H R => tl σ H fun x H1 => ∃ a, x = .ref a ∧ (∃ xs, SqL K H1 a xs) ∧ R (Itl K a) H1
def iTup (K : PySem.W.Frag) (tl : TE) : TI := fun σ H R => tl σ H fun x H1 => ∃ a, x = .ref a ∧ (∃ xs, SqT K H1 a xs) ∧ R (Itt K a) H1
theorem pi_list {l : Expr} {tl : TE} (hl : PE X l tl) : PI X tg l (iList X.K tl) := by
  intro pins s σ H R I h
  refine thn (hl pins s σ H _ I h) fun v s1 ⟨x, H1, I1, r1, q1⟩ => ?_
  obtain ⟨a, e, ⟨xs, hq⟩, q⟩ := q1
  subst e
  cases r1
  obtain ⟨its, rv, p, hz⟩ := I1.list hq
  refine wpAny_pyIter_list p.isList ?_
  refine ⟨s1.heap.objs.size, [s1.heap.objs.size], _, _, H1, rfl, I1.kept (t' := s1.toks) fun b o e => Heap.get?_push_of_some _ e, turn_list a _, ⟨_, Heap.get?_push_size _ rfl, rfl, rfl⟩, fun b hb => ?_, q⟩
  have e : b = s1.heap.objs.size := by simpa using hb
  subst e
  exact I1.fpOk (Nat.le_refl _) (I1.hok.fresh (Nat.le_refl _))
theorem pi_tup {l : Expr} {tl : TE} (hl : PE X l tl) : PI X tg l (iTup X.K tl) := by
  intro pins s σ H R I h
  refine thn (hl pins s σ H _ I h) fun v s1 ⟨x, H1, I1, r1, q1⟩ => ?_
  obtain ⟨a, e, ⟨xs, hq⟩, q⟩ := q1
  subst e
  cases r1
  obtain ⟨its, rv, p, hz⟩ := I1.tuple hq
  refine wpAny_pyIter_tuple (show s1.heap.IsTuple a its.toArray from p) ?_
  refine ⟨s1.heap.objs.size, [s1.heap.objs.size], _, _, H1, rfl, I1.kept (t' := s1.toks) fun b o e => Heap.get?_push_of_some _ e, turn_tuple a _, ⟨_, Heap.get?_push_size _ rfl, rfl, rfl⟩, fun b hb => ?_, q⟩
  have e : b = s1.heap.objs.size := by simpa using hb
  subst e
  exact I1.fpOk (Nat.le_refl _) (I1.hok.fresh (Nat.le_refl _))
/-- a range object just made, walked -/
theorem range_it {pins : List (Addr × Obj)} {σ : St} {H : Hp} {s : Shared} {R : It → Hp → Prop} {E : Value → Shared → Prop} {lo hi : Int} {t u v : Tok} {tk : Nat} (I : Inv X pins σ H s) (h1 : -(2 ^ 62) ≤ lo) (h2 : lo < 2 ^ 62) (h3 : -(2 ^ 62) ≤ hi) (h4 : hi < 2 ^ 62)
    (q : R (Itr lo (hi - lo).toNat) H) : wpAny (model X.prog X.w) X.A (pyIter (.ref s.heap.objs.size)) (PIE X pins σ tg R) E { s with heap := s.heap.push { cls := .type "range", data := .fields #[.int lo t, .int hi u, .int 1 v] }, toks := tk } := by
  refine wpAny_pyIter_range (IsRange.new ..) (small_one h1 h2 h3 h4) ?_
  have I1 : Inv X pins σ H { s with heap := s.heap.push { cls := .type "range", data := .fields #[.int lo t, .int hi u, .int 1 v] }, toks := tk } := I.kept fun b o e => Heap.get?_push_of_some _ e
  refine ⟨(s.heap.push { cls := .type "range", data := .fields #[.int lo t, .int hi u, .int 1 v] }).objs.size, [(s.heap.push { cls := .type "range", data := .fields #[.int lo t, .int hi u, .int 1 v] }).objs.size], _, _, H, rfl,
    I1.kept (t' := tk) fun b o e => Heap.get?_push_of_some _ e, turn_range _ lo (hi - lo).toNat, ?_, fun b hb => ?_, q⟩
  · have e1 : lo + ((0 : Nat) : Int) * 1 = lo := by simp
    have e2 : (((hi - lo).toNat : Nat) : Int) - ((0 : Nat) : Int) = Builtin.Range.rangeSize lo hi 1 := by rw [rangeSize_one]; split <;> omega
    show IsRangeIter _ _ (lo + ((0 : Nat) : Int) * 1) ((((hi - lo).toNat : Nat) : Int) - ((0 : Nat) : Int)) 1
    rw [e1, e2]
    exact Heap.get?_push_size _ rfl
  · have e : b = (s.heap.push { cls := .type "range", data := .fields #[.int lo t, .int hi u, .int 1 v] }).objs.size := by simpa using hb
    subst e
    exact I1.fpOk (Nat.le_refl _) (I1.hok.fresh (Nat.le_refl _))
def iRng1 (ta : TA) : TI := fun σ H R => ta σ H fun vs H1 => ∃ j : Int, vs = [.int j] ∧ -(2 ^ 62) ≤ j ∧ j < 2 ^ 62 ∧ R (Itr 0 j.toNat) H1
def iRng2 (ta : TA) : TI := fun σ H R => ta σ H fun vs H1 => ∃ i j : Int, vs = [.int i, .int j] ∧ (-(2 ^ 62) ≤ i ∧ i < 2 ^ 62 ∧ -(2 ^ 62) ≤ j ∧ j < 2 ^ 62) ∧ R (Itr i (j - i).toNat) H1
theorem pi_range1 {a : Expr} {ta : TA} {p pos : Pos} (hg : Gl X "range") (hm : X.mg "range" = none) (ha : PA X [a] ta) (hs : starEach [a] X.env = [(false, eval a X.env)] := by rfl) : PI X tg (.Call (.Name "range" p) [a] [] pos) (iRng1 ta) := by
  intro pins s σ H R I h
  refine Call_ (ld_blt I hg hm boot_range (PyProof.Rows.callWith_type1 (thn (ha pos pins s σ H _ I h) fun us s1 ⟨vs, H1, I1, r1, q1⟩ => ?_) hs rfl))
  obtain ⟨j, e, q1, q2, q⟩ := q1
  subst e
  cases r1 with
  | cons r rr =>
    cases rr
    obtain ⟨t, rfl⟩ := r
    exact call_range_1 (range_it I1 (by omega) (by omega) q1 q2 (by simpa using q))
theorem pi_range2 {a b : Expr} {ta : TA} {p pos : Pos} (hg : Gl X "range") (hm : X.mg "range" = none) (ha : PA X [a, b] ta) (hs : starEach [a, b] X.env = [(false, eval a X.env), (false, eval b X.env)] := by rfl) (hs2 : starEach [b] X.env = [(false, eval b X.env)] := by rfl) :
    PI X tg (.Call (.Name "range" p) [a, b] [] pos) (iRng2 ta) := by
  intro pins s σ H R I h
  refine Call_ (ld_blt I hg hm boot_range (PyProof.Rows.callWith_type1 (thn (ha pos pins s σ H _ I h) fun us s1 ⟨vs, H1, I1, r1, q1⟩ => ?_) (by rw [hs, hs2]) (by rw [hs2]; rfl)))
  obtain ⟨i, j, e, ⟨q1, q2, q3, q4⟩, q⟩ := q1
  subst e
  cases r1 with
  | cons r rr =>
    cases rr with
    | cons r' rr =>
      cases rr
      obtain ⟨t, rfl⟩ := r
      obtain ⟨t', rfl⟩ := r'
      exact call_range_2 (range_it I1 q1 q2 q3 q4 q)

/-! ### for -/
/-- W: the invariant by the turn and a measure; N: what the body is to reach -/
def tFor (wi : TI) (g : TG) (tb : TS) : TS := fun D σ H => wi σ H fun J H1 => ∃ W : Nat → Nat → St → Hp → Prop, (∃ m, W 0 m σ H1) ∧ ∀ i m σ H, W i m σ H →
  (J.stop i H ∧ D.nx σ H) ∨ (J.go i H ∧ ∃ N : St → Hp → Prop, (∀ σ' H', N σ' H' → ∃ m', m' < m ∧ W (i + 1) m' σ' H') ∧ ∀ x H', J.yld i H x H' → g x σ H' fun σ2 H2 => tb { D with nx := N, ct := N, bk := D.nx } σ2 H2)
/-- the records at fp as they stand -/
def pinsAt (fp : List Addr) (h : Heap) : List (Addr × Obj) := fp.filterMap fun b => (h.get? b).map fun o => (b, o)
theorem mem_pinsAt {fp : List Addr} {h : Heap} {b : Addr} {o : Obj} (hb : b ∈ fp) (e : h.get? b = some o) : (b, o) ∈ pinsAt fp h := List.mem_filterMap.mpr ⟨b, hb, by rw [e]; rfl⟩
theorem of_pinsAt {fp : List Addr} {h : Heap} {p : Addr × Obj} (hp : p ∈ pinsAt fp h) : p.1 ∈ fp ∧ h.get? p.1 = some p.2 := by
  obtain ⟨b, hb, e⟩ := List.mem_filterMap.mp hp
  cases q : h.get? b with
  | none => rw [q] at e; cases e
  | some o =>
    rw [q] at e
    have e' : (b, o) = p := Option.some.inj e
    subst e'
    exact ⟨hb, q⟩
theorem Inv.pinned {pins : List (Addr × Obj)} {σ : St} {H : Hp} {s : Shared} {fp : List Addr} (I : Inv X pins σ H s) (hf : ∀ b ∈ fp, FpOk X pins H b) (ho : ∀ b ∈ fp, ∃ o, s.heap.get? b = some o ∧ ∀ v, o.data ≠ .cell v) : Inv X (pins ++ pinsAt fp s.heap) σ H s :=
  I.pins_of fun p hp => (List.mem_append.mp hp).elim (fun z => I.pin p (List.mem_append_right _ z)) fun z => by
    obtain ⟨hb, e⟩ := of_pinsAt z
    obtain ⟨f0, f1, f2, _⟩ := hf p.1 hb
    obtain ⟨o, e', d⟩ := ho p.1 hb
    rw [e] at e'; cases e'
    exact ⟨e, f0, f1, f2, d⟩
theorem Inv.unpinned {pins pl : List (Addr × Obj)} {σ : St} {H : Hp} {s : Shared} (I : Inv X (pins ++ pl) σ H s) : Inv X pins σ H s := I.pins_of fun p hp => I.pin p (List.mem_append_right _ (List.mem_append_left _ hp))
theorem ps_for {iter : Expr} {body : List Stmt} {wi : TI} {g : TG} {tb : TS} {pos : Pos} (hp : PassesOwn (model X.prog X.w) X.A X.env X.xe) (hc : X.calm = true) (hi : PI X tg iter wi) (hg : PG X tg g) (hb : PSs X body tb)
    (hs : ∀ x, foldedSetIterable iter X.env x = pure x := by intro _; rfl) : PS X (.For tg iter body [] pos) (tFor wi g tb) := by
  intro pins s σ H D I h
  refine wpAny_For (thn (hi pins s σ H _ I h) fun v s1 h1 => thn h1 fun itv s2 h2 => ?_) hs
  obtain ⟨it, fp, tn, J, H2, e, I2, T, st2, f2, W, ⟨m0, w0⟩, turn⟩ := h2
  subst e
  -- what stays true of the iterator's objects through the loop
  have stat : ∀ {H' : Hp}, (∀ b ∈ fp, H' b = none) → ∀ b ∈ fp, FpOk X pins H' b := fun hn b hb => ⟨hn b hb, (f2 b hb).2⟩
  refine codeAny_forLoop_any (fun n s' => ∃ i σ' H', Inv X pins σ' H' s' ∧ tn i s'.heap ∧ (∀ b ∈ fp, H' b = none) ∧ W i n σ' H') ?_ m0 ⟨0, σ, H2, I2, st2, fun b hb => (f2 b hb).1, w0⟩
  rintro n s3 ⟨i, σ3, H3, I3, st3, fr3, w3⟩
  rcases turn i n σ3 H3 w3 with ⟨stop, qn⟩ | ⟨go, N, hN, step⟩
  · refine wpAny_passesOwn hp (thn (T.done X rfl rfl rfl hc i pins s3 σ3 H3 X.xe I3 (stat fr3) st3 stop) fun r s4 ⟨hr, I4⟩ => ?_)
    subst hr
    exact wpAny_execs_nil ⟨σ3, H3, I4, qn⟩
  · refine wpAny_passesOwn hp (thn (T.item X rfl rfl rfl hc i pins s3 σ3 H3 X.xe I3 (stat fr3) st3 go) fun r s4 ⟨u, hr, h4⟩ => ?_)
    subst hr
    refine wpAny_passesOwn hp (thn h4 fun _ s5 ⟨x, H5, I5, r5, y5, st5, fr5⟩ => ?_)
    have I5' := I5.pinned (stat fr5) (T.obj _ _ st5)
    refine wpAny_passesOwn hp (thn (hg _ s5 σ3 H5 x u _ I5' r5 (step x H5 y5)) fun _ s6 ⟨σ6, H6, I6, q6⟩ => ?_)
    refine wpAny_passesOwn hp (thn (hb _ s6 σ6 H6 _ I6 q6) fun f s7 q7 => ?_)
    have again : ∀ {σ7 : St} {H7 : Hp}, Inv X (pins ++ pinsAt fp s5.heap) σ7 H7 s7 → N σ7 H7 → ∃ m, m < n ∧ ∃ i σ' H', Inv X pins σ' H' s7 ∧ tn i s7.heap ∧ (∀ b ∈ fp, H' b = none) ∧ W i m σ' H' := fun {σ7 H7} I7 n7 => by
      obtain ⟨m', hm, w7⟩ := hN σ7 H7 n7
      refine ⟨m', hm, i + 1, σ7, H7, I7.unpinned, T.keep _ _ _ st5 fun b hb o e => (I7.pin (b, o) (List.mem_append_right _ (List.mem_append_right _ (mem_pinsAt hb e)))).1, fun b hb => ?_, w7⟩
      obtain ⟨o, e, d⟩ := T.obj _ _ st5 b hb
      exact (I7.pin (b, o) (List.mem_append_right _ (List.mem_append_right _ (mem_pinsAt hb e)))).2.1
    cases f with
    | next => obtain ⟨σ7, H7, I7, n7⟩ := q7; exact again I7 n7
    | cont => obtain ⟨σ7, H7, I7, n7⟩ := q7; exact again I7 n7
    | brk => obtain ⟨σ7, H7, I7, q7⟩ := q7; exact ⟨σ7, H7, I7.unpinned, q7⟩
    | ret v => obtain ⟨x7, σ7, H7, I7, r7, q7⟩ := q7; exact ⟨x7, σ7, H7, I7.unpinned, r7, q7⟩
end

/-! ### the forms one uses -/
/-- over a list that the body leaves as it is -/
theorem for_list {K : PySem.W.Frag} {a : Addr} {xs : List V} {g : TG} {tb : TS} {D : Ends} {σ : St} {H : Hp} (Pv : Nat → St → Hp → Prop) (h0 : Pv 0 σ H) (hl : ∀ i σ H, i ≤ xs.length → Pv i σ H → SqL K H a xs)
    (hs : ∀ i x σ H, xs[i]? = some x → Pv i σ H → g x σ H fun σ2 H2 => tb { D with nx := Pv (i + 1), ct := Pv (i + 1), bk := D.nx } σ2 H2) (hd : ∀ σ H, Pv xs.length σ H → D.nx σ H) :
    ∃ W : Nat → Nat → St → Hp → Prop, (∃ m, W 0 m σ H) ∧ ∀ i m σ H, W i m σ H →
      ((Itl K a).stop i H ∧ D.nx σ H) ∨ ((Itl K a).go i H ∧ ∃ N : St → Hp → Prop, (∀ σ' H', N σ' H' → ∃ m', m' < m ∧ W (i + 1) m' σ' H') ∧ ∀ x H', (Itl K a).yld i H x H' → g x σ H' fun σ2 H2 => tb { D with nx := N, ct := N, bk := D.nx } σ2 H2) := by
  refine ⟨fun i m σ H => m = xs.length - i ∧ i ≤ xs.length ∧ Pv i σ H, ⟨xs.length, by simp, Nat.zero_le _, h0⟩, ?_⟩
  rintro i m σ H ⟨rfl, hi, p⟩
  have q := hl i σ H hi p
  by_cases hlt : i < xs.length
  · refine .inr ⟨⟨xs, xs[i], q, by simp [hlt]⟩, Pv (i + 1), fun σ' H' p' => ⟨xs.length - (i + 1), by omega, rfl, hlt, p'⟩, fun x H' y => ?_⟩
    obtain ⟨e, y⟩ := y
    subst e
    exact hs i x σ _ (y xs q) p
  · have e : i = xs.length := by omega
    subst e
    exact .inl ⟨⟨xs, q, Nat.le_refl _⟩, hd σ H p⟩
theorem for_tup {K : PySem.W.Frag} {a : Addr} {xs : List V} {g : TG} {tb : TS} {D : Ends} {σ : St} {H : Hp} (Pv : Nat → St → Hp → Prop) (h0 : Pv 0 σ H) (hl : ∀ i σ H, i ≤ xs.length → Pv i σ H → SqT K H a xs)
    (hs : ∀ i x σ H, xs[i]? = some x → Pv i σ H → g x σ H fun σ2 H2 => tb { D with nx := Pv (i + 1), ct := Pv (i + 1), bk := D.nx } σ2 H2) (hd : ∀ σ H, Pv xs.length σ H → D.nx σ H) :
    ∃ W : Nat → Nat → St → Hp → Prop, (∃ m, W 0 m σ H) ∧ ∀ i m σ H, W i m σ H →
      ((Itt K a).stop i H ∧ D.nx σ H) ∨ ((Itt K a).go i H ∧ ∃ N : St → Hp → Prop, (∀ σ' H', N σ' H' → ∃ m', m' < m ∧ W (i + 1) m' σ' H') ∧ ∀ x H', (Itt K a).yld i H x H' → g x σ H' fun σ2 H2 => tb { D with nx := N, ct := N, bk := D.nx } σ2 H2) := by
  refine ⟨fun i m σ H => m = xs.length - i ∧ i ≤ xs.length ∧ Pv i σ H, ⟨xs.length, by simp, Nat.zero_le _, h0⟩, ?_⟩
  rintro i m σ H ⟨rfl, hi, p⟩
  have q := hl i σ H hi p
  by_cases hlt : i < xs.length
  · refine .inr ⟨⟨xs, xs[i], q, by simp [hlt]⟩, Pv (i + 1), fun σ' H' p' => ⟨xs.length - (i + 1), by omega, rfl, hlt, p'⟩, fun x H' y => ?_⟩
    obtain ⟨e, y⟩ := y
    subst e
    exact hs i x σ _ (y xs q) p
  · have e : i = xs.length := by omega
    subst e
    exact .inl ⟨⟨xs, q, Nat.le_refl _⟩, hd σ H p⟩
theorem for_range {lo : Int} {n : Nat} {g : TG} {tb : TS} {D : Ends} {σ : St} {H : Hp} (Pv : Nat → St → Hp → Prop) (h0 : Pv 0 σ H)
    (hs : ∀ i σ H, i < n → Pv i σ H → g (.int (lo + i)) σ H fun σ2 H2 => tb { D with nx := Pv (i + 1), ct := Pv (i + 1), bk := D.nx } σ2 H2) (hd : ∀ σ H, Pv n σ H → D.nx σ H) :
    ∃ W : Nat → Nat → St → Hp → Prop, (∃ m, W 0 m σ H) ∧ ∀ i m σ H, W i m σ H →
      ((Itr lo n).stop i H ∧ D.nx σ H) ∨ ((Itr lo n).go i H ∧ ∃ N : St → Hp → Prop, (∀ σ' H', N σ' H' → ∃ m', m' < m ∧ W (i + 1) m' σ' H') ∧ ∀ x H', (Itr lo n).yld i H x H' → g x σ H' fun σ2 H2 => tb { D with nx := N, ct := N, bk := D.nx } σ2 H2) := by
  refine ⟨fun i m σ H => m = n - i ∧ i ≤ n ∧ Pv i σ H, ⟨n, by simp, Nat.zero_le _, h0⟩, ?_⟩
  rintro i m σ H ⟨rfl, hi, p⟩
  by_cases hlt : i < n
  · refine .inr ⟨hlt, Pv (i + 1), fun σ' H' p' => ⟨n - (i + 1), by omega, rfl, hlt, p'⟩, fun x H' y => ?_⟩
    obtain ⟨e, y⟩ := y
    subst e y
    exact hs i σ _ hlt p
  · have e : i = n := by omega
    subst e
    exact .inl ⟨Nat.le_refl _, hd σ H p⟩
/-- while, by a word and a measure of the state -/
theorem while_by {c : TT} {tb : TS} {D : Ends} {σ : St} {H : Hp} (Pv : St → Hp → Prop) (μ : St → Hp → Nat) (h0 : Pv σ H)
    (hs : ∀ σ H, Pv σ H → c σ H fun b H1 => if b = true then tb { D with nx := fun σ' H' => Pv σ' H' ∧ μ σ' H' < μ σ H, ct := fun σ' H' => Pv σ' H' ∧ μ σ' H' < μ σ H, bk := D.nx } σ H1 else D.nx σ H1)
    (mono : ∀ σ H Q Q', (∀ b H1, Q b H1 → Q' b H1) → c σ H Q → c σ H Q') : tWhile c tb D σ H := by
  refine ⟨fun m σ H => m = μ σ H ∧ Pv σ H, ⟨_, rfl, h0⟩, ?_⟩
  rintro m σ H ⟨rfl, p⟩
  refine mono σ H _ _ (fun b H1 q => ?_) (hs σ H p)
  cases b with
  | true => exact ⟨_, fun σ' H' ⟨p', l⟩ => ⟨_, l, rfl, p'⟩, q⟩
  | false => exact q
end L2

namespace L2
open PySem PySem.Spec PyProof.Rows

abbrev R2 := V → V → Hp → VK → Prop
/-- a two-place operation on values: f is binaryOp op, inplaceOp op or compareOp op -/
def OpR (X : Cx) (f : Value → Value → Sem Value) (r : R2) : Prop :=
  ∀ (pins : List (Addr × Obj)) (s : Shared) (σ : St) (H : Hp) (x y : V) (v u : Value) (Q : VK), Inv X pins σ H s → RelV x v → RelV y u → r x y H Q →
    wpAny (model X.prog X.w) X.A (f v u) (EP X pins σ Q) X.xe s
/-- a one-place operation -/
def UnR (X : Cx) (f : Value → Sem Value) (r : V → Hp → VK → Prop) : Prop :=
  ∀ (pins : List (Addr × Obj)) (s : Shared) (σ : St) (H : Hp) (x : V) (v : Value) (Q : VK), Inv X pins σ H s → RelV x v → r x H Q →
    wpAny (model X.prog X.w) X.A (f v) (EP X pins σ Q) X.xe s
/-- a call of a value that is known (a builtin, a type) with values -/
def CallR (X : Cx) (f : Value) (r : List V → Hp → VK → Prop) : Prop :=
  ∀ (pins : List (Addr × Obj)) (s : Shared) (σ : St) (H : Hp) (xs : List V) (us : List Value) (Q : VK), Inv X pins σ H s → Vals xs us → r xs H Q →
    wpAny (model X.prog X.w) X.A (call f us) (EP X pins σ Q) X.xe s
/-- a value's truth -/
def TruR (X : Cx) (r : V → Hp → (Bool → Hp → Prop) → Prop) : Prop :=
  ∀ (pins : List (Addr × Obj)) (s : Shared) (σ : St) (H : Hp) (x : V) (v : Value) (Q : Bool → Hp → Prop), Inv X pins σ H s → RelV x v → r x H Q →
    wpAny (model X.prog X.w) X.A (truthy v) (TP X pins σ Q) X.xe s

def tOp (r : R2) (ta tb : TE) : TE := fun σ H Q => ta σ H fun x H1 => tb σ H1 fun y H2 => r x y H2 Q
def tUn (r : V → Hp → VK → Prop) (ta : TE) : TE := fun σ H Q => ta σ H fun x H1 => r x H1 Q
/-- ints in, under C, and a value out -/
def rI (C : Int → Int → Prop) (g : Int → Int → V) : R2 := fun x y H Q => ∃ i j, x = .int i ∧ y = .int j ∧ C i j ∧ Q (g i j) H
def rI0 (g : Int → Int → V) : R2 := fun x y H Q => ∃ i j, x = .int i ∧ y = .int j ∧ Q (g i j) H
def rU (g : Int → V) : V → Hp → VK → Prop := fun x H Q => ∃ i, x = .int i ∧ Q (g i) H

section
variable {X : Cx} {a b c : Expr} {ta tb tc : TE} {pos : Pos}

theorem binT (ha : PE X a ta) (hb : PE X b tb) {pins : List (Addr × Obj)} {s : Shared} {σ : St} {H : Hp} {R : V → V → Hp → Prop} (I : Inv X pins σ H s)
    (h : ta σ H fun x H1 => tb σ H1 fun y H2 => R x y H2) {Q : Value → Shared → Prop} {f : Value → Value → Sem Value}
    (hf : ∀ v u s2 x y H2, Inv X pins σ H2 s2 → RelV x v → RelV y u → R x y H2 → wpAny (model X.prog X.w) X.A (f v u) Q X.xe s2) :
    wpAny (model X.prog X.w) X.A (eval a X.env) (fun v s₁ => wpAny (model X.prog X.w) X.A (eval b X.env) (fun u s₂ => wpAny (model X.prog X.w) X.A (f v u) Q X.xe s₂) X.xe s₁) X.xe s := by
  refine thn (ha pins s σ H _ I h) fun v s1 ⟨x, H1, I1, r1, q1⟩ => ?_
  refine thn (hb pins s1 σ H1 _ I1 q1) fun u s2 ⟨y, H2, I2, r2, q2⟩ => ?_
  exact hf v u s2 x y H2 I2 r1 r2 q2

theorem pe_op {op : Operator} {r : R2} (ho : OpR X (binaryOp op) r) (ha : PE X a ta) (hb : PE X b tb) : PE X (.BinOp a op b pos) (tOp r ta tb) := by
  intro pins s σ H Q I h
  exact wpAny_BinOp (binT ha hb I h fun v u s2 x y H2 I2 rx ry q => ho pins s2 σ H2 x y v u Q I2 rx ry q)
theorem pe_un {op : UnaryOp} {r : V → Hp → VK → Prop} (ho : UnR X (unaryOp op) r) (ha : PE X a ta) : PE X (.UnaryOp op a pos) (tUn r ta) := by
  intro pins s σ H Q I h
  exact UnaryOp_ (thn (ha pins s σ H _ I h) fun v s1 ⟨x, H1, I1, r1, q1⟩ => ho pins s1 σ H1 x v Q I1 r1 q1)
/-! ### ints -/
theorem opI {f : Value → Value → Sem Value} {C : Int → Int → Prop} {g : Int → Int → Int}
    (rule : ∀ (i j : Int) (t u : Tok) (s : Shared) (Q : Value → Shared → Prop) (E : Value → Shared → Prop), C i j → Q (.int (g i j) s.toks) { s with toks := s.toks + 1 } → wpAny (model X.prog X.w) X.A (f (.int i t) (.int j u)) Q E s) :
    OpR X f (rI C fun i j => .int (g i j)) := by
  intro pins s σ H x y v u Q I rx ry h
  obtain ⟨i, j, rfl, rfl, hc, q⟩ := h
  obtain ⟨t, rfl⟩ := rx
  obtain ⟨t', rfl⟩ := ry
  exact rule i j t t' s _ _ hc ⟨.int (g i j), H, I.tok _, ⟨_, rfl⟩, q⟩
theorem opI0 {f : Value → Value → Sem Value} {g : Int → Int → Int}
    (rule : ∀ (i j : Int) (t u : Tok) (s : Shared) (Q : Value → Shared → Prop) (E : Value → Shared → Prop), Q (.int (g i j) s.toks) { s with toks := s.toks + 1 } → wpAny (model X.prog X.w) X.A (f (.int i t) (.int j u)) Q E s) :
    OpR X f (rI0 fun i j => .int (g i j)) := by
  intro pins s σ H x y v u Q I rx ry h
  obtain ⟨i, j, rfl, rfl, q⟩ := h
  obtain ⟨t, rfl⟩ := rx
  obtain ⟨t', rfl⟩ := ry
  exact rule i j t t' s _ _ ⟨.int (g i j), H, I.tok _, ⟨_, rfl⟩, q⟩
theorem opB0 {f : Value → Value → Sem Value} {g : Int → Int → Bool}
    (rule : ∀ (i j : Int) (t u : Tok) (s : Shared) (Q : Value → Shared → Prop) (E : Value → Shared → Prop), Q (.bool (g i j)) s → wpAny (model X.prog X.w) X.A (f (.int i t) (.int j u)) Q E s) :
    OpR X f (rI0 fun i j => .bl (g i j)) := by
  intro pins s σ H x y v u Q I rx ry h
  obtain ⟨i, j, rfl, rfl, q⟩ := h
  obtain ⟨t, rfl⟩ := rx
  obtain ⟨t', rfl⟩ := ry
  exact rule i j t t' s _ _ ⟨.bl (g i j), H, I, rfl, q⟩

def CDiv (i j : Int) : Prop := 0 < j ∧ j < 1073741824
def CDivN (i j : Int) : Prop := j ≠ 0 ∧ j.natAbs < 1073741824
def CPow (i j : Int) : Prop := 0 ≤ j ∧ j ≤ 1000000 ∧ i.natAbs < 2 ^ 64
def CMul (i j : Int) : Prop := (-(2 ^ 64) < i ∧ i < 2 ^ 64) ∨ (-(2 ^ 64) < j ∧ j < 2 ^ 64)
theorem op_add : OpR X (binaryOp .Add) (rI0 fun i j => .int (i + j)) := opI0 fun _ _ _ _ _ _ _ q => add_int q
theorem op_sub : OpR X (binaryOp .Sub) (rI0 fun i j => .int (i - j)) := opI0 fun _ _ _ _ _ _ _ q => sub_int q
/-- % by a positive divisor of any size -/
theorem op_mod : OpR X (binaryOp .Mod) (rI (fun _ j => 0 < j) fun i j => .int (i % j)) := opI fun i j _ _ _ _ _ hc q => by
  have h1 : (0 : Int) < j := hc
  exact mod_int' (by omega) (by rw [Int.fmod_eq_emod_of_nonneg i (by omega)]; exact q)
theorem unI {f : Value → Sem Value} {g : Int → Int}
    (rule : ∀ (i : Int) (t : Tok) (s : Shared) (Q : Value → Shared → Prop) (E : Value → Shared → Prop), Q (.int (g i) s.toks) { s with toks := s.toks + 1 } → wpAny (model X.prog X.w) X.A (f (.int i t)) Q E s) :
    UnR X f (rU fun i => .int (g i)) := by
  intro pins s σ H x v Q I rx h
  obtain ⟨i, rfl, q⟩ := h
  obtain ⟨t, rfl⟩ := rx
  exact rule i t s _ _ ⟨.int (g i), H, I.tok _, ⟨_, rfl⟩, q⟩
theorem un_neg : UnR X (unaryOp .USub) (rU fun i => .int (-i)) := unI fun _ _ _ _ _ q => neg_int q
/-! ### bools among ints: n += (a < b) -/
end

/-! ### comparisons -/
/-- the scalars that == tells apart as data does -/
def scal : V → V → Bool
  | .non, .non => true | .non, .int _ => true | .int _, .non => true | .non, .bl _ => true | .bl _, .non => true | .non, .str _ => true | .str _, .non => true
  | .int _, .int _ => true | .bl _, .bl _ => true | .str _, .str _ => true | .byt _, .byt _ => true
  | .int _, .str _ => true | .str _, .int _ => true | .bl _, .str _ => true | .str _, .bl _ => true
  | _, _ => false
def rEq : R2 := fun x y H Q => scal x y = true ∧ Q (.bl (decide (x = y))) H
def rNe : R2 := fun x y H Q => scal x y = true ∧ Q (.bl (!decide (x = y))) H

theorem dec_int {i j : Int} : decide (V.int i = V.int j) = (i == j) := by
  rw [Bool.eq_iff_iff]
  simp
theorem dec_bl {i j : Bool} : decide (V.bl i = V.bl j) = (i == j) := by
  rw [Bool.eq_iff_iff]
  simp
theorem dec_str {i j : Str} : decide (V.str i = V.str j) = (i == j) := by
  rw [Bool.eq_iff_iff]
  simp
theorem dec_byt {i j : Array UInt8} : decide (V.byt i = V.byt j) = (i.toList == j.toList) := by
  rw [Bool.eq_iff_iff]
  cases i
  cases j
  simp

section
variable {X : Cx} {a b c : Expr} {ta tb tc : TE} {pos : Pos}
theorem fin_bl {pins : List (Addr × Obj)} {σ : St} {H : Hp} {s : Shared} {Q : VK} {k k' : Bool} (I : Inv X pins σ H s) (q : Q (.bl k) H) (e : k = k') : EP X pins σ Q (.bool k') s := by
  subst e
  exact ⟨.bl k, H, I, rfl, q⟩
theorem op_eq : OpR X (compareOp .Eq) rEq := by
  intro pins s σ H x y v u Q I rx ry h
  obtain ⟨hs, q⟩ := h
  cases x with
  | non =>
    cases rx
    cases y with
    | non => cases ry; exact PySem.EqNone.eq_none_none (fin_bl I q (by simp))
    | bl j => cases ry; exact PySem.EqNone.eq_none_bool (fin_bl I q (by simp))
    | int j => obtain ⟨t', rfl⟩ := ry; exact PySem.EqNone.eq_none_int (fin_bl I q (by simp))
    | str j => obtain ⟨t', rfl⟩ := ry; exact PySem.EqNone.eq_none_str (fin_bl I q (by simp))
    | _ => exact absurd (show false = true from hs) Bool.false_ne_true
  | bl i =>
    cases rx
    cases y with
    | non => cases ry; exact PySem.EqNone.eq_bool_none (fin_bl I q (by simp))
    | bl j => cases ry; exact eq_bool (fin_bl I q dec_bl)
    | str j => obtain ⟨t', rfl⟩ := ry; exact PySem.EqMixed.eq_bool_str (fin_bl I q (by simp))
    | _ => exact absurd (show false = true from hs) Bool.false_ne_true
  | int i =>
    obtain ⟨t, rfl⟩ := rx
    cases y with
    | non => cases ry; exact PySem.EqNone.eq_int_none (fin_bl I q (by simp))
    | int j => obtain ⟨t', rfl⟩ := ry; exact eq_int (fin_bl I q dec_int)
    | str j => obtain ⟨t', rfl⟩ := ry; exact PySem.EqMixed.eq_int_str (fin_bl I q (by simp))
    | _ => exact absurd (show false = true from hs) Bool.false_ne_true
  | str i =>
    obtain ⟨t, rfl⟩ := rx
    cases y with
    | non => cases ry; exact PySem.EqNone.eq_str_none (fin_bl I q (by simp))
    | bl j => cases ry; exact PySem.EqMixed.eq_str_bool (fin_bl I q (by simp))
    | int j => obtain ⟨t', rfl⟩ := ry; exact PySem.EqMixed.eq_str_int (fin_bl I q (by simp))
    | str j => obtain ⟨t', rfl⟩ := ry; exact eq_str (fin_bl I q dec_str)
    | _ => exact absurd (show false = true from hs) Bool.false_ne_true
  | byt i =>
    obtain ⟨t, rfl⟩ := rx
    cases y with
    | byt j => obtain ⟨t', rfl⟩ := ry; exact PySem.W.eq_bytes (fin_bl I q dec_byt)
    | _ => exact absurd (show false = true from hs) Bool.false_ne_true
  | _ => cases y <;> exact absurd (show false = true from hs) Bool.false_ne_true
theorem op_ne : OpR X (compareOp .NotEq) rNe := by
  intro pins s σ H x y v u Q I rx ry h
  obtain ⟨hs, q⟩ := h
  cases x with
  | non =>
    cases rx
    cases y with
    | non => cases ry; exact PySem.EqNone.ne_none_none (fin_bl I q (by simp))
    | bl j => cases ry; exact PySem.EqNone.ne_none_bool (fin_bl I q (by simp))
    | int j => obtain ⟨t', rfl⟩ := ry; exact PySem.EqNone.ne_none_int (fin_bl I q (by simp))
    | str j => obtain ⟨t', rfl⟩ := ry; exact PySem.EqNone.ne_none_str (fin_bl I q (by simp))
    | _ => exact absurd (show false = true from hs) Bool.false_ne_true
  | bl i =>
    cases rx
    cases y with
    | non => cases ry; exact PySem.EqNone.ne_bool_none (fin_bl I q (by simp))
    | bl j => cases ry; exact ne_bool (fin_bl I q (congrArg not dec_bl))
    | str j => obtain ⟨t', rfl⟩ := ry; exact PySem.EqMixed.ne_bool_str (fin_bl I q (by simp))
    | _ => exact absurd (show false = true from hs) Bool.false_ne_true
  | int i =>
    obtain ⟨t, rfl⟩ := rx
    cases y with
    | non => cases ry; exact PySem.EqNone.ne_int_none (fin_bl I q (by simp))
    | int j => obtain ⟨t', rfl⟩ := ry; exact ne_int (fin_bl I q (congrArg not dec_int))
    | str j => obtain ⟨t', rfl⟩ := ry; exact PySem.EqMixed.ne_int_str (fin_bl I q (by simp))
    | _ => exact absurd (show false = true from hs) Bool.false_ne_true
  | str i =>
    obtain ⟨t, rfl⟩ := rx
    cases y with
    | non => cases ry; exact PySem.EqNone.ne_str_none (fin_bl I q (by simp))
    | bl j => cases ry; exact PySem.EqMixed.ne_str_bool (fin_bl I q (by simp))
    | int j => obtain ⟨t', rfl⟩ := ry; exact PySem.EqMixed.ne_str_int (fin_bl I q (by simp))
    | str j => obtain ⟨t', rfl⟩ := ry; exact ne_str (fin_bl I q (congrArg not dec_str))
    | _ => exact absurd (show false = true from hs) Bool.false_ne_true
  | byt i =>
    obtain ⟨t, rfl⟩ := rx
    cases y with
    | byt j => obtain ⟨t', rfl⟩ := ry; exact PySem.W.ne_bytes (fin_bl I q (congrArg not dec_byt))
    | _ => exact absurd (show false = true from hs) Bool.false_ne_true
  | _ => cases y <;> exact absurd (show false = true from hs) Bool.false_ne_true

theorem op_lt : OpR X (compareOp .Lt) (rI0 fun i j => .bl (decide (i < j))) := opB0 fun _ _ _ _ _ _ _ q => lt_int q
theorem op_gt : OpR X (compareOp .Gt) (rI0 fun i j => .bl (decide (j < i))) := opB0 fun _ _ _ _ _ _ _ q => gt_int q
theorem op_ge : OpR X (compareOp .GtE) (rI0 fun i j => .bl (decide (j ≤ i))) := opB0 fun _ _ _ _ _ _ _ q => ge_int q
/-- is None, is not None: the right side a value none -/
theorem op_isN : OpR X (compareOp .Is) (fun x y H Q => y = .non ∧ Q (.bl (decide (x = .non))) H) := by
  intro pins s σ H x y v u Q I rx ry h
  obtain ⟨rfl, q⟩ := h
  cases ry
  refine is_none_gen (fin_bl I q ?_)
  cases x <;> first
    | (cases rx; rfl)
    | (obtain ⟨t, rfl⟩ := rx; rfl)
/-- is, is not of two objects that are tracked lists or instances -/
def isObj : HO → Bool
  | .lst _ => true
  | .ins _ _ _ => true
  | _ => false
theorem nomark (b : Expr) {op : CmpOp} (h : op ≠ .In := by decide) (h2 : op ≠ .NotIn := by decide) : behindInMarks op b = false := by
  have e1 : (op == CmpOp.In) = false := by cases op <;> first | rfl | exact absurd rfl h
  have e2 : (op == CmpOp.NotIn) = false := by cases op <;> first | rfl | exact absurd rfl h2
  cases b <;> simp [behindInMarks, e1, e2]
/-- a comparison as a value; hm: nomark b, or (for in, not in) by with_unfolding_all rfl -/
theorem pe_cmpR {op : CmpOp} {r : R2} (ho : OpR X (compareOp op) r) (ha : PE X a ta) (hb : PE X b tb) (hm : behindInMarks op b = false) : PE X (.Compare a [op] [b] pos) (tOp r ta tb) := by
  intro pins s σ H Q I h
  exact wpAny_Compare1 (binT ha hb I h fun v u s2 x y H2 I2 rx ry q => ho pins s2 σ H2 x y v u Q I2 rx ry q) hm
/-- a reading of a value as a test -/
def tTest (t : TE) : TT := fun σ H Q => t σ H fun x H' => ∃ k, x = .bl k ∧ Q k H'
theorem pt_cmpR {op : CmpOp} {r : R2} (ho : OpR X (compareOp op) r) (ha : PE X a ta) (hb : PE X b tb) (hm : behindInMarks op b = false) : PT X (.Compare a [op] [b] pos) (tTest (tOp r ta tb)) := by
  intro pins s σ H Q I h
  refine wpAny_isTrue_Compare1 (thn (ha pins s σ H _ I h) fun v s1 ⟨x, H1, I1, r1, q1⟩ => thn (hb pins s1 σ H1 _ I1 q1) fun u s2 ⟨y, H2, I2, r2, q2⟩ =>
    thn (ho pins s2 σ H2 x y v u _ I2 r1 r2 q2) fun c s3 ⟨z, H3, I3, r3, k, e, q3⟩ => ?_) hm
  subst e
  cases r3
  exact wpAny_truthy_bool ⟨H3, I3, q3⟩
/-- a op1 b op2 c -/
def tChain (r r' : R2) (ta tb tc : TE) : TE := fun σ H Q => ta σ H fun x H1 => tb σ H1 fun y H2 => r x y H2 fun z H3 => ∃ k, z = .bl k ∧
  (if k = true then tc σ H3 fun w' H4 => r' y w' H4 Q else Q (.bl false) H3)
/-! ### truth -/
/-- a value's truth by the abstract heap -/
def TruV (K : PySem.W.Frag) (x : V) (H : Hp) (k : Bool) : Prop :=
  match x with
  | .non => k = false
  | .bl b => k = b
  | .int i => k = (i != 0)
  | .str y => y.length ≤ sizeLine ∧ k = ((y.length : Int) != 0)
  | .byt y => y.size ≤ sizeLine ∧ k = ((y.size : Int) != 0)
  | .ref p => (∃ xs, SqL K H p xs ∧ k = !xs.isEmpty) ∨ (∃ xs, SqT K H p xs ∧ k = !xs.isEmpty) ∨ ∃ kvs, H p = some (.dK kvs) ∧ k = !kvs.isEmpty
  | _ => False
theorem line63 : (sizeLine : Nat) < 2 ^ 63 := by rw [sizeLine_eq]; decide
/-! ### strs and bytes -/
theorem op_add_str : OpR X (binaryOp .Add) (fun x y H Q => ∃ i j, x = .str i ∧ y = .str j ∧ i.length + j.length ≤ sizeLine ∧ Q (.str (i ++ j)) H) := by
  intro pins s σ H x y v u Q I rx ry h
  obtain ⟨i, j, rfl, rfl, hz, q⟩ := h
  obtain ⟨t, rfl⟩ := rx
  obtain ⟨t', rfl⟩ := ry
  exact add_str (fun t' tk => ⟨.str (i ++ j), H, I.tok _, ⟨_, rfl⟩, q⟩) hz
def PlainIxT (b : Expr) : Prop := ∀ o i, subscripted b false o i = operate [o, i] (getItem o i)
/-! ### scalar builtins, by CallR -/
theorem vals1 {x : V} {us : List Value} (r : Vals [x] us) : ∃ u, us = [u] ∧ RelV x u := by
  cases r with
  | cons r1 r2 => cases r2; exact ⟨_, rfl, r1⟩
theorem vals2 {x y : V} {us : List Value} (r : Vals [x, y] us) : ∃ u w', us = [u, w'] ∧ RelV x u ∧ RelV y w' := by
  cases r with
  | cons r1 r2 =>
    cases r2 with
    | cons r3 r4 => cases r4; exact ⟨_, _, rfl, r1, r3⟩
theorem call_abs : CallR X (.builtin "abs") (fun xs H Q => ∃ i, xs = [.int i] ∧ Q (.int (if i < 0 then -i else i)) H) := by
  intro pins s σ H xs us Q I r h
  obtain ⟨i, rfl, q⟩ := h
  obtain ⟨u, rfl, t, rfl⟩ := vals1 r
  exact call_abs_int fun u tk => ⟨.int (if i < 0 then -i else i), H, I.tok _, ⟨_, rfl⟩, q⟩
theorem call_max2 (hc : X.calm = true) : CallR X (.builtin "max") (fun xs H Q => ∃ i j, xs = [.int i, .int j] ∧ Q (.int (if j > i then j else i)) H) := by
  intro pins s σ H xs us Q I r h
  obtain ⟨i, j, rfl, q⟩ := h
  obtain ⟨u, w', rfl, ⟨t, rfl⟩, ⟨t', rfl⟩⟩ := vals2 r
  refine max_two_ints (I.ok.hd hc) fun h' tk k => ⟨_, H, I.kept k, ?_, q⟩
  by_cases hj : j > i
  · rw [if_pos hj, if_pos hj]; exact ⟨_, rfl⟩
  · rw [if_neg hj, if_neg hj]; exact ⟨_, rfl⟩
theorem call_min2 (hc : X.calm = true) : CallR X (.builtin "min") (fun xs H Q => ∃ i j, xs = [.int i, .int j] ∧ Q (.int (if j < i then j else i)) H) := by
  intro pins s σ H xs us Q I r h
  obtain ⟨i, j, rfl, q⟩ := h
  obtain ⟨u, w', rfl, ⟨t, rfl⟩, ⟨t', rfl⟩⟩ := vals2 r
  refine min_two_ints (I.ok.hd hc) fun h' tk k => ⟨_, H, I.kept k, ?_, q⟩
  by_cases hj : j < i
  · rw [if_pos hj, if_pos hj]; exact ⟨_, rfl⟩
  · rw [if_neg hj, if_neg hj]; exact ⟨_, rfl⟩
/-- len of a str, a bytes, a list, a tuple -/
def LenV (K : PySem.W.Frag) (x : V) (H : Hp) (n : Nat) : Prop :=
  match x with
  | .str y => y.length ≤ sizeLine ∧ n = y.length
  | .byt y => y.size ≤ sizeLine ∧ n = y.size
  | .ref p => (∃ xs, SqL K H p xs ∧ n = xs.length) ∨ ∃ xs, SqT K H p xs ∧ n = xs.length
  | _ => False
end
end L2

namespace L2
open PySem PySem.Spec PyProof.Rows

/-! ### an instance, its attributes a map -/
structure ObjM (h : Heap) (x dx C : Addr) (mA : Str → Option Value) : Prop where
  obj : h.get? x = some (PySem.W.instObj C dx)
  ns : h.Ns1 dx mA
  ne : dx ≠ x

section
variable {prog : Program} {w : World} {A : Around} {E : Value → Shared → Prop} {s : Shared} {K : PySem.W.Frag} {x dx C f : Addr} {mA : Str → Option Value} {name : Str} {v : Value}

end

/-! ### the attributes as a list of pairs -/
def putF (f : Str) (v : V) : List (Str × V) → List (Str × V)
  | [] => [(f, v)]
  | (g, x) :: r => if g = f then (g, v) :: r else (g, x) :: putF f v r
theorem RelO.some_of {v : V} {o : Option Value} (r : RelO (some v) o) : ∃ u, o = some u ∧ RelV v u := by
  cases o with
  | none => exact (show False from r).elim
  | some u => exact ⟨u, rfl, r⟩
section
variable {P : Program} {w : World} {H H' : Hp} {h h' : Heap} {a C dx : Addr} {fs fs' : List (Str × V)}
end

/-! ### what of the text a class must have -/
structure Cls (K : PySem.W.Frag) (C : Addr) : Prop where
  pg : PySem.W.plainGet K C Str.empty = true
  hd : PySem.W.hasDictIn K C = true
  po : PySem.W.plainOver K C = true
  sa : PySem.W.findIn K (.ref C) "__setattr__" = some (some (.builtin "object.__setattr__"))
/-- no class of it has the name -/
def NoAttr (K : PySem.W.Frag) (C : Addr) (f : Str) : Prop := PySem.W.findIn K (.ref C) f = some none
/-- a constant of the class -/
structure Con (K : PySem.W.Frag) (C : Addr) (f : Str) (v : V) (u : Value) : Prop where
  at_ : PySem.W.findIn K (.ref C) f = some (some u)
  rel : RelV v u
  get : PySem.W.specialIn K u "__get__" = some none
  cp : PySem.W.copiedNames.contains f = false
/-- a method: a plain def of the class or of one above it -/
structure Meth (K : PySem.W.Frag) (C : Addr) (m : Str) (f : Addr) : Prop where
  at_ : PySem.W.findIn K (.ref C) m = some (some (.ref f))
  fn : PySem.W.isFn K (.ref f) = true
  kp : PySem.W.keepIn K (.ref f) = true

section
variable {X : Cx} {pins : List (Addr × Obj)} {σ : St} {H : Hp} {s : Shared} {a C dx : Addr} {fs : List (Str × V)} {f : Str} {v : V} {A : Around} {E : Value → Shared → Prop}

end

/-! ### readings and rules -/
/-- e.f, an attribute of the instance -/
def tFld (K : PySem.W.Frag) (ta : TE) (f : Str) : TE := fun σ H Q => ta σ H fun x H1 => ∃ a C dx fs v, x = .ref a ∧ H1 a = some (.ins C dx fs) ∧ Cls K C ∧ NoAttr K C f ∧ fs.lookup f = some v ∧ Q v H1
/-- e.f, a constant of the class -/
def tCon (K : PySem.W.Frag) (ta : TE) (f : Str) : TE := fun σ H Q => ta σ H fun x H1 => ∃ a C dx fs v u, x = .ref a ∧ H1 a = some (.ins C dx fs) ∧ Cls K C ∧ Con K C f v u ∧ fs.lookup f = none ∧ Q v H1
/-- e.f = value -/
def sFld (K : PySem.W.Frag) (ta tv : TE) (f : Str) : TS := fun D σ H => tv σ H fun y H1 => ta σ H1 fun x H2 => ∃ a C dx fs, x = .ref a ∧ H2 a = some (.ins C dx fs) ∧ Cls K C ∧ NoAttr K C f ∧ fs.length < 1000 ∧
  D.nx σ (upd H2 a (.ins C dx (putF f y fs)))
/-- an augmented operator on two values -/
def InOp (X : Cx) (op : Operator) (rd : V → V → Hp → VK → Prop) : Prop :=
  ∀ (pins : List (Addr × Obj)) (s : Shared) (σ : St) (H : Hp) (x y : V) (u v : Value) (Q : VK), Inv X pins σ H s → RelV x u → RelV y v → rd x y H Q → wpAny (model X.prog X.w) X.A (inplaceOp op u v) (EP X pins σ Q) X.xe s
/-- e.f op= value -/
def sFldAug (K : PySem.W.Frag) (ta tv : TE) (rd : V → V → Hp → VK → Prop) (f : Str) : TS := fun D σ H => ta σ H fun x H1 => ∃ a C dx fs v, x = .ref a ∧ H1 a = some (.ins C dx fs) ∧ Cls K C ∧ NoAttr K C f ∧ fs.lookup f = some v ∧
  tv σ H1 fun y H2 => rd v y H2 fun z H3 => ∃ dx' fs', H3 a = some (.ins C dx' fs') ∧ fs'.length < 1000 ∧ D.nx σ (upd H3 a (.ins C dx' (putF f z fs')))

section
variable {X : Cx} {o e value : Expr} {f : Str} {pos pos' tpos : Pos} {ta tv : TE}
def rAdd : V → V → Hp → VK → Prop := fun x y H Q => ∃ i j, x = .int i ∧ y = .int j ∧ Q (.int (i + j)) H
def rSub : V → V → Hp → VK → Prop := fun x y H Q => ∃ i j, x = .int i ∧ y = .int j ∧ Q (.int (i - j)) H
end

/-! ### isinstance -/
section
variable {X : Cx} {pins : List (Addr × Obj)} {σ : St} {H : Hp} {s : Shared} {A : Around} {E : Value → Shared → Prop} {Q : Value → Shared → Prop} {c : Value} {b : Bool}
/-- the type of a value, as the fragment's deciders take it; for an instance its class -/
inductive TyOf (K : PySem.W.Frag) (H : Hp) : V → Value → Prop where
  | non : TyOf K H .non (.type "NoneType")
  | bl (x : Bool) : TyOf K H (.bl x) (.type "bool")
  | int (i : Int) : TyOf K H (.int i) (.type "int")
  | str (x : Str) : TyOf K H (.str x) (.type "str")
  | flt (x : UInt64) : TyOf K H (.flt x) (.type "float")
  | lst {a : Addr} {xs : List V} (e : H a = some (.lst xs)) : TyOf K H (.ref a) (.type "list")
  | frz {a : Addr} {o : Obj} {xs : List V} (e : H a = some (.frz o (.lst xs))) : TyOf K H (.ref a) (.type "list")
  | tup {a : Addr} {xs : List V} (e : H a = some (.tup xs)) : TyOf K H (.ref a) (.type "tuple")
  | dK {a : Addr} {kvs : List (Key × V)} (e : H a = some (.dK kvs)) : TyOf K H (.ref a) (.type "dict")
  | dT {a : Addr} {kvs : List (List Key × V)} (e : H a = some (.dT kvs)) : TyOf K H (.ref a) (.type "dict")
  | ins {a C dx : Addr} {fs : List (Str × V)} (e : H a = some (.ins C dx fs)) (cl : Cls K C) (ha : PySem.W.findIn K (.ref C) "__class__" = some (some (.builtin "object.__class__")))
      (hn : PySem.W.specialIn K (.builtin "object.__class__") "__get__" = some (some (.builtin "getset_descriptor.__get__"))) (htk : PySem.W.takesIn K (.builtin "object.__class__") = some true)
      (hm : PySem.W.mroIn K C (.type "object") = some true) : TyOf K H (.ref a) (.ref C)
end
end L2

namespace L2
open PySem PySem.Spec PyProof.Rows

/-! ### room -/
structure Room (k : Nat) (A : Around) : Prop where
  hd : A.handled = none
  dp : A.depth + 3 * k + 5 < recursionLimit
  un : A.units + 16 * k + 200 < cLine
theorem Room.mono {j k : Nat} {A : Around} (r : Room k A) (h : j ≤ k) : Room j A := ⟨r.hd, by have := r.dp; omega, by have := r.un; omega⟩
theorem Room.deeper {k : Nat} {A : Around} (r : Room (k + 1) A) (env : Env) : Room k (A.deeper env) :=
  ⟨r.hd, by have := r.dp; show A.depth + 1 + 3 * k + 5 < _; omega, by have := r.un; show A.units + 3 + 16 * k + 200 < _; omega⟩
theorem Room.depth {k : Nat} {A : Around} (r : Room k A) : A.depth < recursionLimit := by have := r.dp; omega
theorem Room.units {k : Nat} {A : Around} (r : Room k A) : A.units + 64 < cLine := by have := r.un; omega
/-! ### argument lists and displays -/
def tNil : TA := fun _ H Q => Q [] H
def tCons (ta : TE) (tr : TA) : TA := fun σ H Q => ta σ H fun x H1 => tr σ H1 fun xs H2 => Q (x :: xs) H2
section
variable {X : Cx} {e : Expr} {es : List Expr} {te : TE} {t : TA} {pos : Pos}
theorem pa_nil : PA X [] tNil := fun _ _ _ _ H Q I h => Calls.spliced_nil ⟨[], H, I, .nil, h⟩
theorem pa_cons (ha : PE X e te) (hr : PA X es t) (hs : starEach (e :: es) X.env = (false, eval e X.env) :: starEach es X.env := by rfl) : PA X (e :: es) (tCons te t) := by
  intro pos pins s σ H Q I h
  rw [hs]
  show wpAny _ _ (spliced ((false, eval e X.env) :: backTo pos (starEach es X.env))) _ _ s
  refine Calls.spliced_cons (thn (ha pins s σ H _ I h) fun u s1 ⟨x, H1, I1, r1, q1⟩ => ?_)
  exact thn (hr pos pins s1 σ H1 _ I1 q1) fun us s2 ⟨xs, H2, I2, r2, q2⟩ => ⟨x :: xs, H2, I2, .cons r1 r2, q2⟩

/-- a tuple, a list of written items -/
def tTup (t : TA) : TE := fun σ H Q => t σ H fun xs H1 => xs.length ≤ sizeLine ∧ ∀ p, H1 p = none → Q (.ref p) (upd H1 p (.tup xs))
def tLst (t : TA) : TE := fun σ H Q => t σ H fun xs H1 => xs.length ≤ sizeLine ∧ ∀ p, H1 p = none → Q (.ref p) (upd H1 p (.lst xs))
theorem pe_tup {x1} (h : PA X es t) : PE X (.Tuple es x1 pos) (tTup t) := by
  intro pins s σ H Q I hq
  refine wpAny_Tuple_spliced (thn (h pos pins s σ H _ I hq) fun us s1 ⟨xs, H1, I1, r, z, q⟩ => ⟨by rw [← r.length]; exact z, ?_⟩)
  have hf : H1 s1.heap.objs.size = none := I1.hok.fresh (Nat.le_refl _)
  refine ⟨.ref s1.heap.objs.size, upd H1 s1.heap.objs.size (.tup xs), I1.laid (t' := s1.toks) (fun b u e => Heap.get?_push_of_some _ e) (Nat.le_refl _) ?_, rfl, q _ hf⟩
  exact ⟨z, us, r, ⟨_, Heap.get?_push_size _ rfl, rfl, _, rfl⟩⟩
theorem pe_lst (h : PA X es t) : PE X (.List es pos) (tLst t) := by
  intro pins s σ H Q I hq
  refine wpAny_List_spliced (thn (h pos pins s σ H _ I hq) fun us s1 ⟨xs, H1, I1, r, z, q⟩ => ⟨by rw [← r.length]; exact z, ?_⟩)
  have hf : H1 s1.heap.objs.size = none := I1.hok.fresh (Nat.le_refl _)
  refine ⟨.ref s1.heap.objs.size, upd H1 s1.heap.objs.size (.lst xs), I1.laid (t' := s1.toks) (fun b u e => Heap.get?_push_of_some _ e) (Nat.le_refl _) ?_, rfl, q _ hf⟩
  exact ⟨z, us, 0, r, Heap.get?_push_size _ rfl⟩
end

/-! ### what a def promises -/
/-- a def's promise: the bound arguments in the parameters' order, the heap, the wanted end, the wanted exception -/
abbrev Sp := List V → Hp → VK → XK → Prop
/-- how an exception lies behind a call (file 08 gives it): the callers' frames, abstract heap and state ahead of the call, the wish, the exception, the state -/
abbrev CXT := List Env → Hp → Shared → XK → Value → Shared → Prop

/-- the state at a call -/
structure Env0 (P : Program) (w : World) (K : PySem.W.Frag) (mg : Str → Option Value) (base : Heap) (A : Around) (outer : List Env) (s : Shared) (H : Hp) : Prop where
  frames : A.frames = some outer
  mod : Mod K mg base
  bs : ∀ b o, base.get? b = some o → s.heap.get? b = some o ∧ H b = none
  bsz : base.objs.size ≤ s.heap.objs.size
  funs : s.heap.FunFrames base outer
  frf : ∀ b ∈ frs outer, H b = none
  hok : HOk P w H s.heap
  bare : AllBare s.gens
/-- a call's end -/
def CE (outer : List Env) (P : Program) (w : World) (H : Hp) (s : Shared) (Q : VK) (u : Value) (s' : Shared) : Prop :=
  ∃ v H', s'.os = s.os ∧ AllBare s'.gens ∧ Un (frs outer) [] H H' s.heap s'.heap ∧ HOk P w H' s'.heap ∧ RelV v u ∧ Q v H'
def CR (CX : CXT) (outer : List Env) (P : Program) (w : World) (H : Hp) (s : Shared) (Q : VK) (E : XK) (r : Result) (s' : Shared) : Prop :=
  match r with
  | .ok (.ret u) => CE outer P w H s Q u s'
  | .ok _ => False
  | .error e => CX outer H s E e s'
structure FnOk (P : Program) (w : World) (K : PySem.W.Frag) (mg : Str → Option Value) (base : Heap) (CX : CXT) (k : Nat) (f : Addr) (fd : FuncData) (ps : List Str) (sp : Sp) : Prop where
  len : ∀ vs H Q E, sp vs H Q E → vs.length = ps.length
  run : ∀ (A : Around) (outer : List Env) (s : Shared) (H : Hp) (args : Args) (us : List Value) (vs : List V) (Q : VK) (E : XK), Room k A → Env0 P w K mg base A outer s H → BindsTo s fd args (ps.zip us) → Vals vs us → sp vs H Q E →
    codeAny (model P w) A (.call (.ref f) args) (CR CX outer P w H s Q E) s
theorem FnOk.mono {P : Program} {w : World} {K : PySem.W.Frag} {mg : Str → Option Value} {base : Heap} {CX : CXT} {j k : Nat} {f : Addr} {fd : FuncData} {ps : List Str} {sp : Sp} (F : FnOk P w K mg base CX j f fd ps sp) (h : j ≤ k) :
    FnOk P w K mg base CX k f fd ps sp := ⟨F.len, fun A outer s H args us vs Q E hr => F.run A outer s H args us vs Q E (hr.mono h)⟩
section
variable {X : Cx} {pins : List (Addr × Obj)} {σ : St} {H : Hp} {s s' : Shared}
/-- from a body: what a callee wants -/
theorem Inv.env0 (I : Inv X pins σ H s) : Env0 X.prog X.w X.K X.mg X.base X.A X.stack s H :=
  ⟨I.ok.frames, I.ok.mod, I.bs, Nat.le_trans I.ok.bsz I.sz, I.stack, I.stkFree, I.hok, I.bare⟩
/-- behind a call -/
theorem Inv.after {Q : VK} {u : Value} (I : Inv X pins σ H s) (h : CE X.stack X.prog X.w H s Q u s') : EP X pins σ Q u s' := by
  obtain ⟨v, H', os, bare, un, hok, r, q⟩ := h
  obtain ⟨hh, g, d, t, os'⟩ := s'
  obtain rfl : os' = s.os := os
  exact ⟨v, H', I.call (h' := hh) (g' := g) (d' := d) (t' := t) (ch := []) un hok bare (fun b z => absurd z (by simp)), r, q⟩
end

/-! ### calls -/
/-- f(..): the written arguments, then the defaults dvs; E: what is wanted of an exception -/
def tCall (sp : Sp) (dvs : List V) (E : XK) (t : TA) : TE := fun σ H Q => t σ H fun vs H1 => sp (vs ++ dvs) H1 Q E
/-- o.m(..) of an instance of the class at C -/
def tMeth (C : Addr) (m : Str) (sp : Sp) (dvs : List V) (E : XK) (ta : TE) (t : TA) : TE := fun σ H Q => ta σ H fun x H1 => ∃ a dx fs, x = .ref a ∧ H1 a = some (.ins C dx fs) ∧ fs.lookup m = none ∧
  t σ H1 fun vs H2 => sp (x :: (vs ++ dvs)) H2 Q E
/-- C(..): a new instance and its dict, then __init__ -/
def tMake (C : Addr) (sp : Sp) (dvs : List V) (E : XK) (t : TA) : TE := fun σ H Q => t σ H fun vs H1 => ∀ x dx, H1 x = none → H1 dx = none → dx ≠ x →
  sp (.ref x :: (vs ++ dvs)) (upd (upd H1 dx (.own x)) x (.ins C dx [])) (fun v H2 => v = .non ∧ Q (.ref x) H2) E

/-- how the parameters are bound: us the positional arguments, kw the keywords' values by name, ds the defaults that fill up -/
def Binds (K : PySem.W.Frag) (fd : FuncData) (ps : List Str) (ds : List Value) : Prop :=
  ∀ (s : Shared) (us : List Value), K.In s.heap → (us ++ ds).length = ps.length → BindsTo s fd ⟨us, []⟩ (ps.zip (us ++ ds))
/-- every parameter is given -/
theorem Binds.all {K : PySem.W.Frag} {fd : FuncData} {ps : List Str} (h : ∀ us : List Value, us.length = ps.length → bindArgs fd ⟨us, []⟩ = pure (ps.zip us)) : Binds K fd ps [] := fun s us _ hl => by
  rw [List.append_nil] at hl ⊢
  exact .of_eq (h us hl)

/-- an exception of a callee reaches what this body wants of exceptions -/
def Passes (CX : CXT) (X : Cx) (E : XK) : Prop := ∀ (pins : List (Addr × Obj)) (σ : St) (H : Hp) (s : Shared) (e : Value) (s' : Shared), Inv X pins σ H s → CX X.stack H s E e s' → X.xe e s'

section
variable {X : Cx} {CX : CXT} {k : Nat} {f C : Addr} {fd : FuncData} {ps : List Str} {sp : Sp} {dvs : List V} {ds : List Value} {E : XK} {x m : Str} {p pos apos : Pos} {e o : Expr} {es : List Expr} {ta : TE} {t : TA}

/-- the callee runs -/
theorem run_fn {pins : List (Addr × Obj)} {σ : St} {H : Hp} {s : Shared} {Q : VK} {us : List Value} {vs : List V} (F : FnOk X.prog X.w X.K X.mg X.base CX k f fd ps sp) (hr : Room k X.A) (hb : Binds X.K fd ps ds) (hd : Vals dvs ds) (hx : Passes CX X E)
    (I : Inv X pins σ H s) (r : Vals vs us) (h : sp (vs ++ dvs) H Q E) : wpAny (model X.prog X.w) X.A (call (.ref f) us) (EP X pins σ Q) X.xe s := by
  have r2 : Vals (vs ++ dvs) (us ++ ds) := r.append hd
  have hl : (us ++ ds).length = ps.length := by rw [← r2.length]; exact F.len _ _ _ _ h
  refine wpAny_call (codeAny_mono (F.run X.A X.stack s H ⟨us, []⟩ (us ++ ds) (vs ++ dvs) Q E hr I.env0 (hb s us I.kIn hl) r2 h) fun r s' hq => ?_)
  cases r with
  | error e => exact hx pins σ H s e s' I hq
  | ok fl =>
    cases fl with
    | ret u => exact I.after hq
    | next => exact False.elim hq
    | brk => exact False.elim hq
    | cont => exact False.elim hq

theorem pe_call (F : FnOk X.prog X.w X.K X.mg X.base CX k f fd ps sp) (hr : Room k X.A) (hg : Gl X x) (hm : X.mg x = some (.ref f)) (hk : PySem.W.keepIn X.K (.ref f) = true) (hb : Binds X.K fd ps ds) (hd : Vals dvs ds) (hx : Passes CX X E)
    (ha : PA X (e :: es) t) (hdb : (x == ("__debug__" : Str)) = false := by decide) (he : starEach (e :: es) X.env = (false, eval e X.env) :: starEach es X.env := by rfl) (hpl : (backTo pos (starEach es X.env)).any (·.1) = false := by rfl) :
    PE X (.Call (.Name x p) (e :: es) [] pos) (tCall sp dvs E t) := by
  intro pins s σ H Q I h
  refine wpAny_Call_Name_kw (ld_glob I hg hm ?_ hdb)
  refine PySem.W.callWith_K (h₀ := X.base) I.ok.mod.kin hk (thn (ha pos pins s σ H _ I h) fun us s1 ⟨vs, H1, I1, r, q⟩ => ⟨I1.kIn, ?_⟩) he hpl
  exact run_fn F hr hb hd hx I1 r q
/-- what a class must have to be made -/
structure Mk (K : PySem.W.Frag) (C f : Addr) : Prop where
  makes : PySem.W.makesIn K C = true
  init : PySem.W.findIn K (.ref C) "__init__" = some (some (.ref f))
  fn : PySem.W.isFn K (.ref f) = true
  kp : PySem.W.keepIn K (.ref C) = true

end

/-! ### keywords -/
/-- the values of the keywords, from the left -/
def PK (X : Cx) (kws : List Keyword) (t : TA) : Prop :=
  ∀ (pos : Pos) (pins : List (Addr × Obj)) (s : Shared) (σ : St) (H : Hp) (Q : List V → Hp → Prop), Inv X pins σ H s → t σ H Q → wpAny (model X.prog X.w) X.A (evalAll ((backToKw pos (keywordEach kws X.env)).map (·.2))) (AP X pins σ Q) X.xe s
section
variable {X : Cx} {CX : CXT} {k : Nat} {f C : Addr} {fd : FuncData} {ps ks : List Str} {sp : Sp} {E : XK} {x m : Str} {p pos apos kpos : Pos} {e o : Expr} {es : List Expr} {kws : List Keyword} {te ta : TE} {t tk : TA} {nm : Option Str}
/-- how a call with keywords binds: g puts the positional values us and the keywords' values ws (names ks) in the parameters' order, defaults among them -/
structure KBinds (K : PySem.W.Frag) (fd : FuncData) (ps ks : List Str) (g : List Value → List Value → List Value) (gV : List V → List V → List V) : Prop where
  to : ∀ (s : Shared) (us ws : List Value), K.In s.heap → (g us ws).length = ps.length → BindsTo s fd ⟨us, ks.zip ws⟩ (ps.zip (g us ws))
  rel : ∀ {vs : List V} {us : List Value} {zs : List V} {ws : List Value}, Vals vs us → Vals zs ws → Vals (gV vs zs) (g us ws)
def tCallK (sp : Sp) (gV : List V → List V → List V) (E : XK) (t tk : TA) : TE := fun σ H Q => t σ H fun vs H1 => tk σ H1 fun zs H2 => sp (gV vs zs) H2 Q E
variable {g : List Value → List Value → List Value} {gV : List V → List V → List V}
end

/-! ### a def's body keeps its promise -/
/-- names: the parameters first -/
structure FnScope (N P : List Str) (sc : Scope) : Prop where
  kind : sc.kind = .function
  co : sc.isCoroutine = false
  gen : sc.isGenerator = false
  nd : N.Nodup
  pre : N.take P.length = P
  par : ∀ x ∈ P, sc.names.lookup x = some .local ∨ sc.names.lookup x = some .cell
  nofree : ∀ y ∈ sc.names, y.2 ≠ .free

theorem bindL_out {kindOf : Str → Option NameKind} {x : Str} : ∀ {binds : List (Str × Value)} {m : Str → Option Value}, (∀ v, (x, v) ∉ binds) → bindL kindOf binds m x = m x
  | [], _, _ => rfl
  | (n, v) :: r, m, h => by
    unfold bindL
    rw [bindL_out fun w hw => h w (List.mem_cons_of_mem _ hw)]
    split
    · have : x ≠ n := by rintro rfl; exact h v List.mem_cons_self
      simp [this]
    · rfl
theorem bindC_out {kindOf : Str → Option NameKind} {x : Str} : ∀ {binds : List (Str × Value)} {m : Str → Option Value}, (∀ v, (x, v) ∉ binds) → bindC kindOf binds m x = m x
  | [], _, _ => rfl
  | (n, v) :: r, m, h => by
    unfold bindC
    rw [bindC_out fun w hw => h w (List.mem_cons_of_mem _ hw)]
    split
    · rfl
    · have : x ≠ n := by rintro rfl; exact h v List.mem_cons_self
      simp [this]
theorem bindL_get {kindOf : Str → Option NameKind} {x : Str} {v : Value} : ∀ {P : List Str} {vs : List Value} {i : Nat} {m : Str → Option Value}, P.Nodup → P[i]? = some x → vs[i]? = some v → kindOf x = some .local →
    bindL kindOf (P.zip vs) m x = some v
  | [], _, _, _, _, h, _, _ => by simp at h
  | _ :: _, [], _, _, _, _, h, _ => by simp at h
  | p :: P, w :: vs, 0, m, nd, h1, h2, hk => by
    simp at h1 h2; subst h1; subst h2
    show bindL kindOf ((p, w) :: P.zip vs) m p = _
    unfold bindL
    rw [bindL_out fun v hv => (List.nodup_cons.mp nd).1 (List.of_mem_zip hv).1, if_pos hk]
    simp
  | p :: P, w :: vs, i + 1, m, nd, h1, h2, hk => by
    show bindL kindOf ((p, w) :: P.zip vs) m x = _
    unfold bindL
    exact bindL_get (i := i) (List.nodup_cons.mp nd).2 (by simpa using h1) (by simpa using h2) hk
theorem bindC_get {kindOf : Str → Option NameKind} {x : Str} {v : Value} : ∀ {P : List Str} {vs : List Value} {i : Nat} {m : Str → Option Value}, P.Nodup → P[i]? = some x → vs[i]? = some v → kindOf x ≠ some .local →
    bindC kindOf (P.zip vs) m x = some v
  | [], _, _, _, _, h, _, _ => by simp at h
  | _ :: _, [], _, _, _, _, h, _ => by simp at h
  | p :: P, w :: vs, 0, m, nd, h1, h2, hk => by
    simp at h1 h2; subst h1; subst h2
    show bindC kindOf ((p, w) :: P.zip vs) m p = _
    unfold bindC
    rw [bindC_out fun v hv => (List.nodup_cons.mp nd).1 (List.of_mem_zip hv).1, if_neg hk]
    simp
  | p :: P, w :: vs, i + 1, m, nd, h1, h2, hk => by
    show bindC kindOf ((p, w) :: P.zip vs) m x = _
    unfold bindC
    exact bindC_get (i := i) (List.nodup_cons.mp nd).2 (by simpa using h1) (by simpa using h2) hk

/-- the names' values at the entry -/
def start (N : List Str) (vs : List V) : St := vs.map some ++ List.replicate (N.length - vs.length) none

/-- the context of a def's body, at its entry; an exception leaves the frame, then lies as CX says -/
def cxOf (CX : CXT) (P : Program) (w : World) (K : PySem.W.Frag) (mg : Str → Option Value) (base : Heap) (N : List Str) (qual : Str) (scope : Scope) (f : Addr) (cd : Value) (A : Around) (outer : List Env) (s : Shared) (H : Hp) (E : XK) : Cx where
  prog := P
  w := w
  K := K
  mg := mg
  base := base
  A := A.deeper (envOfC qual scope s.heap.objs.size f cd)
  N := N
  s₀ := s
  H₀ := H
  env := envOfC qual scope s.heap.objs.size f cd
  outer := outer
  stack := envOfC qual scope s.heap.objs.size f cd :: outer
  ex := []
  calm := true
  fn := fun _ => true
  pn := []
  xe := fun e s' => wpAny (model P w) (A.deeper (envOfC qual scope s.heap.objs.size f cd)) (leaving (envOfC qual scope s.heap.objs.size f cd) e) (fun _ s'' => CX outer H s E e s'') (fun e' s'' => CX outer H s E e' s'') s'

theorem cell_has {sc : Scope} {n : Nat} {x : Str} (h : sc.names.lookup x = some .cell) : ∃ c, (cellsFrom n sc.names []).lookup x = some c := by
  have q := PySem.W.cellsFrom_some sc.names n [] (.inl h)
  exact Option.isSome_iff_exists.mp q

theorem inv_start {CX : CXT} {P : Program} {w : World} {K : PySem.W.Frag} {mg : Str → Option Value} {base : Heap} {N ps : List Str} {qual : Str} {scope : Scope} {f : Addr} {cd : Value} {A : Around} {outer : List Env} {s s1 : Shared} {H : Hp} {E : XK} {us : List Value} {vs : List V}
    (S : FnScope N ps scope) (hd : A.handled = none) (e0 : Env0 P w K mg base A outer s H) (hl : vs.length = ps.length) (r : Vals vs us)
    (x : InCallC s s.heap.objs.size (bindL (envOfC qual scope s.heap.objs.size f cd).kindOf (ps.zip us) fun _ => none) (cellsFrom (s.heap.objs.size + 1) scope.names []) (bindC (envOfC qual scope s.heap.objs.size f cd).kindOf (ps.zip us) fun _ => none) s1) :
    Inv (cxOf CX P w K mg base N qual scope f cd A outer s H E) [] (start N vs) H s1 := by
  have hpl : ps.length ≤ N.length := by have := congrArg List.length S.pre; rw [List.length_take] at this; omega
  obtain ⟨h1, tk, rfl, hk⟩ := x.done
  have noA : ∀ b : Addr, b ∉ (cxOf CX P w K mg base N qual scope f cd A outer s H E).ex := fun b z => absurd (show b ∈ ([] : List Addr) from z) (by simp)
  refine ⟨⟨e0.mod, S.kind, rfl, rfl, Nat.le_refl _, fun y z c h1 h2 => ?_, fun y hy => ?_, fun y c _ h => ?_, fun _ => hd, Around.frames_deeper e0.frames, .inr ⟨rfl, rfl⟩, fun b z => absurd z (noA b), e0.bs, e0.bsz, fun b _ _ => noA b, fun b z => absurd z (noA b), e0.funs, e0.frf⟩,
    rfl, e0.bare, Un.kept hk, ⟨_, x.toInCall.ns, fun i y v h1 h2 h3 => ?_⟩, fun y c h => ⟨_, x.cell y c h⟩, e0.hok.fresh (Nat.le_refl _), fun y c h => ?_, fun p hp => absurd (show p ∈ ([] : List (Addr × Obj)) from hp) (by simp), e0.hok.kept hk, ?_⟩
  · exact name_of_addr x.apart (PySem.mem_of_lookup h1) (PySem.mem_of_lookup h2)
  · have hy : scope.names.lookup y = some .cell ∨ scope.names.lookup y = some .free := hy
    rcases hy with hy | hy
    · exact cell_has hy
    · exact absurd rfl (S.nofree _ (PySem.mem_of_lookup hy))
  · exact Nat.le_of_lt (x.above y c (PySem.mem_of_lookup h))
  · have hi : i < vs.length := by
      unfold start at h2
      by_cases hi : i < vs.length
      · exact hi
      · rw [List.getElem?_append_right (by simpa using hi)] at h2
        rw [List.getElem?_replicate] at h2
        split at h2 <;> cases h2
    have ha : vs[i]? = some v := by
      unfold start at h2
      rw [List.getElem?_append_left (by simpa using hi), List.getElem?_map] at h2
      cases e : vs[i]? with
      | none => rw [e] at h2; cases h2
      | some a => rw [e] at h2; cases h2; rfl
    obtain ⟨u, hu, rv⟩ := r.get ha
    have hp : ps[i]? = some y := by
      rw [← S.pre, List.getElem?_take_of_lt (by omega)]; exact h1
    have ndP : ps.Nodup := by rw [← S.pre]; exact S.nd.sublist (List.take_sublist _ _)
    refine ⟨u, rv, ?_⟩
    rcases S.par y (List.mem_of_getElem? hp) with k | k
    · exact .inl ⟨k, bindL_get ndP hp hu k⟩
    · obtain ⟨c, e⟩ := cell_has (n := s.heap.objs.size + 1) k
      refine .inr ⟨.inl k, c, e, ?_⟩
      have q := x.cell y c e
      rw [bindC_get ndP hp hu (by show scope.names.lookup y ≠ _; rw [k]; decide)] at q
      exact q
  · exact e0.hok.fresh (Nat.le_of_lt (x.above y c (PySem.mem_of_lookup h)))
  · unfold start
    show _ = N.length
    rw [List.length_append, List.length_map, List.length_replicate]
    omega

/-- THE RULE: a def (or a method) of the text, by its body. The body's reading t is chosen for each entry; it is run at the parameters' values -/
theorem fn_of {CX : CXT} {P : Program} {w : World} {K : PySem.W.Frag} {mg : Str → Option Value} {base : Heap} {k : Nat} {f : Addr} {name qual : Str} {params : Arguments} {body : List Stmt} {scope : Scope} {dV kV doc pm cdv ct oc : Value} {an od : Option Addr}
    {osl : Array (Option Value)} {N ps : List Str} {sp : Sp} (lk : K.lookup f = some ⟨oc, od, .func (PySem.W.fnOf name qual params body scope dV kV doc pm an cdv ct), osl⟩) (hcd : PySem.W.codeIn K cdv qual = true) (S : FnScope N ps scope)
    (len : ∀ vs H Q E, sp vs H Q E → vs.length = ps.length)
    (hbody : ∀ (A : Around) (outer : List Env) (s : Shared) (H : Hp) (vs : List V) (Q : VK) (E : XK), Room k (A.deeper (envOfC qual scope s.heap.objs.size f cdv)) → sp vs H Q E →
      ∃ t, PSs (cxOf CX P w K mg base N qual scope f cdv A outer s H E) body t ∧ t { nx := fun _ H' => Q .non H', rt := Q } (start N vs) H) :
    FnOk P w K mg base CX (k + 1) f (PySem.W.fnOf name qual params body scope dV kV doc pm an cdv ct) ps sp := by
  refine ⟨len, fun A outer s H args us vs Q E hr e0 hb r hsp => ?_⟩
  have hl := len _ _ _ _ hsp
  have KX : K.In s.heap := e0.mod.kin.keeps fun b o e => (e0.bs b o e).1
  have lim : s.heap.NoLimit := e0.mod.nolimit.keeps fun b o e => (e0.bs b o e).1
  have hkind : ∀ y ∈ ps.zip us, scope.names.lookup y.1 = some .local ∨ (scope.names.lookup y.1 = some .cell ∧ ((cellsFrom (s.heap.objs.size + 1) scope.names []).lookup y.1).isSome = true) := fun ⟨n, v⟩ hy => by
    rcases S.par n (List.of_mem_zip hy).1 with q | q
    · exact .inl q
    · exact .inr ⟨q, PySem.W.cellsFrom_some _ _ _ (.inl q)⟩
  refine codeAny_call_function hr.depth (KX _ _ lk) rfl S.co S.gen rfl (PySem.W.codeRec_of KX hcd) (hb _ _ _ _ ?_)
  refine wpAny_newFunctionEnv_cells S.kind hkind fun env he s1 x => ?_
  subst he
  refine ⟨lim.keeps x.toInCall.keep, codeAny_func ?_⟩
  obtain ⟨t, ht, hq⟩ := hbody A outer s H vs Q E (hr.deeper _) hsp
  have I : Inv (cxOf CX P w K mg base N qual scope f cdv A outer s H E) [] (start N vs) H s1 := inv_start S hr.hd e0 hl r x
  refine wpAny_mono (ht [] s1 (start N vs) H _ I hq) (fun fl s' hs => ?_) fun e s' hs => hs
  have fin : ∀ {σ' : St} {H' : Hp} {v : V} {u : Value}, Inv (cxOf CX P w K mg base N qual scope f cdv A outer s H E) [] σ' H' s' → RelV v u → Q v H' → CE outer P w H s Q u s' :=
    fun {σ' H' v u} J rv q => ⟨v, H', J.os, J.bare, J.base, J.hok, rv, q⟩
  cases fl with
  | ret u =>
    obtain ⟨v, σ', H', J, rv, q⟩ := hs
    exact fin J rv q
  | next =>
    obtain ⟨σ', H', J, q⟩ := hs
    exact fin (v := V.non) (u := Value.none) J rfl q
  | brk =>
    obtain ⟨_, _, _, q⟩ := hs
    exact False.elim q
  | cont =>
    obtain ⟨_, _, _, q⟩ := hs
    exact False.elim q
end L2

namespace L2
open PySem PySem.Spec PyProof.Rows
section
variable {X : Cx} {x : Str} {p pos : Pos} {e : Expr} {es : List Expr} {t : TA} {id T : String} {r : List V → Hp → VK → Prop}

def tCB (r : List V → Hp → VK → Prop) (t : TA) : TE := fun σ H Q => t σ H fun vs H1 => r vs H1 Q
/-- f(e, ..), f a built-in function -/
theorem pe_callB (hc : CallR X (.builtin id) r) (hg : Gl X x) (hm : X.mg x = none) (hv : bootBuiltins x = some (.builtin id)) (ha : PA X (e :: es) t) (hn : x ≠ "__name__" := by decide) (hdb : (x == ("__debug__" : Str)) = false := by decide)
    (he : starEach (e :: es) X.env = (false, eval e X.env) :: starEach es X.env := by rfl) (hpl : (backTo pos (starEach es X.env)).any (·.1) = false := by rfl) : PE X (.Call (.Name x p) (e :: es) [] pos) (tCB r t) := by
  intro pins s σ H Q I h
  refine wpAny_Call_Name_kw (ld_blt I hg hm hv ?_ hn hdb)
  exact PyProof.Rows.callWith_builtin1 (thn (ha pos pins s σ H _ I h) fun us s1 ⟨vs, H1, I1, r1, q1⟩ => hc pins s1 σ H1 vs us Q I1 r1 q1) he hpl
/-- T(e, ..), T a built-in type -/
theorem pe_callTy (hc : CallR X (.type T) r) (hg : Gl X x) (hm : X.mg x = none) (hv : bootBuiltins x = some (.type T)) (ha : PA X (e :: es) t) (hn : x ≠ "__name__" := by decide) (hdb : (x == ("__debug__" : Str)) = false := by decide)
    (he : starEach (e :: es) X.env = (false, eval e X.env) :: starEach es X.env := by rfl) (hpl : (backTo pos (starEach es X.env)).any (·.1) = false := by rfl) : PE X (.Call (.Name x p) (e :: es) [] pos) (tCB r t) := by
  intro pins s σ H Q I h
  refine wpAny_Call_Name_kw (ld_blt I hg hm hv ?_ hn hdb)
  exact PyProof.Rows.callWith_type1 (thn (ha pos pins s σ H _ I h) fun us s1 ⟨vs, H1, I1, r1, q1⟩ => hc pins s1 σ H1 vs us Q I1 r1 q1) he hpl
end
end L2

namespace HT
open PySem PyProof.Rows

/-- t < u of tuples of ints -/
def lexLt : List Int → List Int → Bool
  | [], [] => false
  | [], _ :: _ => true
  | _ :: _, [] => false
  | x :: xs, y :: ys => if x = y then lexLt xs ys else decide (x < y)
section
open PySem.SeqAt
open PySem.AutoSeq1 (wpAny_loadPart')
open PySem.MeetsSeq PySem.MeetsSeq2 PySem.MeetsSeq3

end

section
variable {prog : Program} {w : World} {A : Around} {E : Value → Shared → Prop} {s : Shared}

/-- t + u, t not empty -/
theorem cat_tup {t b : Addr} {vs ws : List Value} {Q : Value → Shared → Prop} (ht : IsTup s.heap t vs.toArray) (hb : IsTup s.heap b ws.toArray) (hv : vs ≠ [])
    (h1 : ws = [] → Q (.ref t) s) (h2 : ws ≠ [] → Q (.ref s.heap.objs.size) { s with heap := s.heap.push { cls := .type "tuple", data := .seq (vs ++ ws).toArray } })
    (hsz : vs.length + ws.length ≤ sizeLine) : wpAny (model prog w) A (binaryOp .Add (.ref t) (.ref b)) Q E s := by
  obtain ⟨⟨cls, dd, data, sl⟩, ho, hc, n, hd⟩ := id ht
  obtain ⟨⟨cls2, dd2, data2, sl2⟩, ho2, hc2, n2, hd2⟩ := id hb
  simp only at hc hd hc2 hd2
  subst hc hd hc2 hd2
  have e : vs.toArray ++ ws.toArray = (vs ++ ws).toArray := by simp
  by_cases hw : ws = []
  · exact concat_meets ⟨_, ho, rfl⟩ ⟨_, ho2, rfl⟩ noFill_tuple_add seq_tuple_add PySem.F.slot_tuple_add PySem.F.entry_tuple_add (PySem.F.args_tuple_add_2 _ _)
      (tuple_addW1 t b vs.toArray ws.toArray n n2 dd dd2 sl sl2 (by simpa using hv) (by simp [hw])) ⟨ho, ho2, h1 hw⟩
  · refine concat_meets ⟨_, ho, rfl⟩ ⟨_, ho2, rfl⟩ noFill_tuple_add seq_tuple_add PySem.F.slot_tuple_add PySem.F.entry_tuple_add (PySem.F.args_tuple_add_2 _ _)
      (tuple_addW2 t b vs.toArray ws.toArray n n2 dd dd2 sl sl2 (by simpa using hv) (by simpa using hw) (by rw [List.size_toArray, List.size_toArray]; exact hsz)) ⟨ho, ho2, ?_⟩
    rw [e]
    exact h2 hw

/-! ### t[a:b], not the whole -/
/-- a slice's bound as a place among n (d where it is left out) -/
def sIx (n d : Nat) : Option Int → Nat
  | none => d
  | some v => if v < 0 then (v + (n : Int)).toNat else min v.toNat n
theorem sIx_none (n d : Nat) : sIx n d none = d := rfl
theorem sIx_le (n d : Nat) (hd : d ≤ n) (o : Option Int) : sIx n d o ≤ n := by
  cases o with
  | none => exact hd
  | some v =>
    show (if v < 0 then (v + (n : Int)).toNat else min v.toNat n) ≤ n
    by_cases hv : v < 0
    · rw [if_pos hv]; omega
    · rw [if_neg hv]; exact Nat.min_le_right _ _
theorem clip_eq (v : Int) (n d : Nat) : (if v < 0 then max (v + (n : Int)) 0 else min v (n : Int)) = ((sIx n d (some v) : Nat) : Int) := by
  show (if v < 0 then max (v + (n : Int)) 0 else min v (n : Int)) = (((if v < 0 then (v + (n : Int)).toNat else min v.toNat n) : Nat) : Int)
  by_cases hv : v < 0
  · simp only [if_pos hv]; omega
  · simp only [if_neg hv]; omega
theorem adjust_gen (lo hi : Option Int) (n : Nat) : Builtin.Slice.sliceAdjust lo hi 1 (n : Int) = (((sIx n 0 lo : Nat) : Int), ((sIx n n hi : Nat) : Int)) := by
  have h1 : ¬ ((1 : Int) < 0) := by omega
  unfold Builtin.Slice.sliceAdjust
  simp only [h1, if_false]
  refine Prod.ext ?_ ?_
  · cases lo with
    | none => rfl
    | some v => exact clip_eq v n 0
  · cases hi with
    | none => rfl
    | some v => exact clip_eq v n n
theorem places_gen (i j : Nat) : Builtin.Slice.slicePlaces (i : Int) (j : Int) 1 = j - i := by
  unfold Builtin.Slice.slicePlaces
  have h1 : (1 : Int) > 0 := by omega
  simp only [h1, if_true, Int.ediv_one]
  split <;> omega
theorem slicePart_ {v : Value} {o : Option Int} {Q : Option Int → Shared → Prop} (p : IsPart v o) (h : Q o s) : wpAny (model prog w) A (Builtin.Slice.slicePartIndex v) Q E s := by
  cases p with
  | none => exact slicePart_none h
  | int i t => exact slicePart_int h
theorem sliceApplied_gen {sl : Addr} {vl vu : Value} {lo hi : Option Int} {n : Nat} {Q : Int × Int × Nat → Shared → Prop} (hs : s.heap.IsSliceOf sl vl vu .none) (pl : IsPart vl lo) (pu : IsPart vu hi)
    (h : Q (((sIx n 0 lo : Nat) : Int), 1, sIx n n hi - sIx n 0 lo) s) : wpAny (model prog w) A (Builtin.Slice.sliceApplied (.ref sl) (pure (n : Int))) Q E s := by
  obtain ⟨os, hos, hcs, hds⟩ := id hs
  unfold Builtin.Slice.sliceApplied Builtin.Slice.sliceFields
  refine wpAny_bind (wpAny_bind (wpAny_field hos hds (x := vl) rfl (wpAny_bind (wpAny_field hos hds (x := vu) rfl (wpAny_bind (wpAny_field hos hds (x := .none) rfl (wpAny_pure ?_)))))))
  refine wpAny_bind (slicePart_none ?_)
  show wpAny _ _ (if ((1 : Int) == 0) = true then _ else _) _ _ s
  rw [if_neg (by decide)]
  refine wpAny_bind (slicePart_ pl (wpAny_bind (slicePart_ pu (wpAny_bind (wpAny_pure ?_)))))
  show wpAny _ _ (match Builtin.Slice.sliceAdjust lo hi 1 (n : Int) with | (lo, hi) => pure (lo, (1 : Int), Builtin.Slice.slicePlaces lo hi 1)) _ _ s
  rw [adjust_gen lo hi n]
  show wpAny _ _ (pure (((sIx n 0 lo : Nat) : Int), (1 : Int), Builtin.Slice.slicePlaces ((sIx n 0 lo : Nat) : Int) ((sIx n n hi : Nat) : Int) 1)) _ _ s
  rw [places_gen]
  exact wpAny_pure h
theorem pick_gen (xs : Array Value) (i k : Nat) : ((List.range k).filterMap fun (m : Nat) => xs[((i : Int) + (m : Int) * 1).toNat]?).toArray = ((xs.toList.drop i).take k).toArray := by
  have e : (fun (m : Nat) => xs[((i : Int) + (m : Int) * 1).toNat]?) = fun m => xs[i + m]? := by
    funext m
    have : ((i : Int) + (m : Int) * 1).toNat = i + m := by omega
    rw [this]
  rw [e]
  have := pick_run xs i k
  rw [List.filterMap_map] at this
  have e2 : ((fun x => xs[x]?) ∘ fun x => i + x) = fun m => xs[i + m]? := rfl
  rw [e2] at this
  rw [this]

theorem getItem_tuple_cut {t sl : Addr} {items : Array Value} {vl vu : Value} {lo hi : Option Int} {Q : Value → Shared → Prop} (ht : IsTup s.heap t items) (hs : s.heap.IsSliceOf sl vl vu .none) (pl : IsPart vl lo) (pu : IsPart vu hi)
    (hw : ¬ (sIx items.size 0 lo = 0 ∧ sIx items.size items.size hi = items.size))
    (h : Q (.ref s.heap.objs.size) { s with heap := s.heap.push { cls := .type "tuple", data := .seq ((items.toList.drop (sIx items.size 0 lo)).take (sIx items.size items.size hi - sIx items.size 0 lo)).toArray } })
    (hsz : items.size ≤ sizeLine) : wpAny (model prog w) A (getItem (.ref t) (.ref sl)) Q E s := by
  have htake : sizeOk (.seq ((items.toList.drop (sIx items.size 0 lo)).take (sIx items.size items.size hi - sIx items.size 0 lo)).toArray) := by
    show ((items.toList.drop (sIx items.size 0 lo)).take (sIx items.size items.size hi - sIx items.size 0 lo)).toArray.size ≤ sizeLine
    rw [List.size_toArray, List.length_take, List.length_drop, Array.length_toList]
    omega
  have hj : sIx items.size items.size hi ≤ items.size := sIx_le _ _ (Nat.le_refl _) hi
  obtain ⟨os, hos, hcs, hds⟩ := id hs
  have hTs : s.TypeIs (.ref sl) "slice" := ⟨os, hos, hcs⟩
  unfold getItem
  try with_reducible refine wpAny_holding ?_
  first | refine wpAny_bind (wpAny_pure ?_) | skip
  refine wpAny_bind (wpAny_sequenceKey ht.typeIs (by decide) ?_)
  refine wpAny_bind (wpAny_callSpecial?_slot (name := Str.ofString "__getitem__") ht.typeIs PyProof.Rows.slot_tuple_getitem
    (wpAny_call_entry PyProof.Rows.slot_tuple_getitem ht.typeIs entry_tuple_getitem ?_ (args_tuple_getitem _ _)))
  show wpAny _ _ (Builtin.Tuple.tupleItemsOf (.ref t) >>= _) _ _ s
  refine wpAny_bind (tupleItemsOf_ ht ?_)
  refine wpAny_bind (wpAny_typeOf hTs ?_)
  rw [if_pos (by decide)]
  refine wpAny_bind (sliceApplied_gen hs pl pu ?_)
  have hno : ¬ ((((sIx items.size 0 lo : Nat) : Int) == 0 && (1 : Int) == 1 && (sIx items.size items.size hi - sIx items.size 0 lo) == items.size) = true) := by
    intro q
    rw [Bool.and_eq_true, Bool.and_eq_true] at q
    have q1 : ((sIx items.size 0 lo : Nat) : Int) = 0 := eq_of_beq q.1.1
    have q2 : sIx items.size items.size hi - sIx items.size 0 lo = items.size := eq_of_beq q.2
    exact hw ⟨by omega, by omega⟩
  show wpAny _ _ (if (((sIx items.size 0 lo : Nat) : Int) == 0 && (1 : Int) == 1 && (sIx items.size items.size hi - sIx items.size 0 lo) == items.size) = true then _ else _) _ _ s
  rw [if_neg hno, pick_gen]
  first
    | exact wpAny_bind (m := Builtin.Tuple.tupleExact _) (wpAny_newObj_type (wpAny_pure ⟨_, rfl, wpAny_pure h⟩) htake)
    | exact wpAny_bind (m := Builtin.Tuple.tupleExact _) (wpAny_newObj_type (wpAny_bind (wpAny_pure (wpAny_pure ⟨_, rfl, wpAny_pure h⟩))) htake)
    | exact wpAny_bind (wpAny_bind (m := Builtin.Tuple.tupleExact _) (wpAny_newObj_type (wpAny_pure (wpAny_pure ⟨_, rfl, wpAny_pure h⟩)) htake))
    | exact wpAny_bind (wpAny_bind (m := Builtin.Tuple.tupleExact _) (wpAny_newObj_type (wpAny_pure ⟨_, rfl, wpAny_pure h⟩) htake))
end
end HT

namespace L2
open PySem PySem.Spec PyProof.Rows

/-! ### the parts of a slice -/
abbrev TO := St → Hp → (Option Int → Hp → Prop) → Prop
/-- a slice's part (left out, or an int) -/
def PO (X : Cx) (e : Option Expr) (t : TO) : Prop :=
  ∀ (pins : List (Addr × Obj)) (s : Shared) (σ : St) (H : Hp) (Q : Option Int → Hp → Prop), Inv X pins σ H s → t σ H Q →
    wpAny (model X.prog X.w) X.A (evalPart e X.env) (fun u s' => ∃ o H', Inv X pins σ H' s' ∧ IsPart u o ∧ Q o H') X.xe s
def tNoPart : TO := fun _ H Q => Q none H
def tPart (t : TE) : TO := fun σ H Q => t σ H fun x H1 => ∃ i, x = .int i ∧ Q (some i) H1

theorem intsAre_of {ns : List Int} : ∀ {us : List Value}, Vals (ns.map V.int) us → IntsAre us ns := by
  induction ns with
  | nil => intro us r; rw [List.map_nil] at r; cases r; exact .nil
  | cons n ns ih =>
    intro us r
    rw [List.map_cons] at r
    cases r with
    | cons r1 r2 =>
      obtain ⟨t, e⟩ := r1
      subst e
      exact .cons n t (ih r2)

section
variable {X : Cx} {e : Expr} {te : TE} {lo hi : Option Expr} {tl th : TO} {pos p2 : Pos}

theorem po_none : PO X none tNoPart := by
  intro pins s σ H Q I h
  rw [evalPart_none]
  exact wpAny_pure ⟨none, H, I, .none, h⟩
theorem po_some (h : PE X e te) : PO X (some e) (tPart te) := by
  intro pins s σ H Q I hw
  rw [evalPart_some]
  refine thn (h pins s σ H _ I hw) fun u s1 ⟨x, H1, I1, r1, q1⟩ => ?_
  obtain ⟨i, rfl, q⟩ := q1
  obtain ⟨t, rfl⟩ := r1
  exact ⟨some i, H1, I1, .int i t, q⟩

/-- what a slice of a value is, by values: the slice object stands at sl -/
def SlR (X : Cx) (r : V → Option Int → Option Int → Hp → VK → Prop) : Prop :=
  ∀ (pins : List (Addr × Obj)) (s : Shared) (σ : St) (H : Hp) (x : V) (v vl vu : Value) (lo hi : Option Int) (sl : Addr) (Q : VK), Inv X pins σ H s → RelV x v → s.heap.IsSliceOf sl vl vu .none → IsPart vl lo → IsPart vu hi → r x lo hi H Q →
    ∃ T id, typeLookup (.type T) "__getitem__" = pure (some (.builtin id)) ∧ s.TypeIs v T ∧ wpAny (model X.prog X.w) X.A (getItem v (.ref sl)) (EP X pins σ Q) X.xe s
def tSl (r : V → Option Int → Option Int → Hp → VK → Prop) (te : TE) (tl th : TO) : TE := fun σ H Q => te σ H fun x H1 => tl σ H1 fun l H2 => th σ H2 fun u H3 => r x l u H3 Q
/-- a[lo:hi], any a -/
theorem pe_slice {r : V → Option Int → Option Int → Hp → VK → Prop} (hr : SlR X r) (he : PE X e te) (hl : PO X lo tl) (hu : PO X hi th) : PE X (.Subscript e (.Slice lo hi none p2) pos) (tSl r te tl th) := by
  intro pins s σ H Q I h
  refine Subscript_ (thn (he pins s σ H _ I h) fun v s1 ⟨x, H1, I1, r1, q1⟩ => ?_)
  refine wpAny_Slice (thn (hl pins s1 σ H1 _ I1 q1) fun vl s2 ⟨l, H2, I2, pl, q2⟩ => thn (hu pins s2 σ H2 _ I2 q2) fun vu s3 ⟨u, H3, I3, pu, q3⟩ => ?_)
  rw [evalPart_none]
  refine wpAny_pure ?_
  have I4 : Inv X pins σ H3 { s3 with heap := s3.heap.push { cls := .type "slice", data := .fields #[vl, vu, .none] } } := I3.kept (t' := s3.toks) fun b ob q => Heap.get?_push_of_some _ q
  obtain ⟨T, id, hT, ht, hg⟩ := hr pins { s3 with heap := s3.heap.push { cls := .type "slice", data := .fields #[vl, vu, .none] } } σ H3 x v vl vu l u s3.heap.objs.size Q I4 r1 (Heap.IsSliceOf.new ..) pl pu q3
  show wpAny (model X.prog X.w) X.A (subscriptTail e (.Slice lo hi none p2) v (.ref s3.heap.objs.size)) (EP X pins σ Q) X.xe { s3 with heap := s3.heap.push { cls := .type "slice", data := .fields #[vl, vu, .none] } }
  exact tail_any (ops := [.ref s3.heap.objs.size, v]) ht hT hg (by with_unfolding_all rfl)

/-- the items of xs[lo:hi] -/
def cutV (xs : List V) (lo hi : Option Int) : List V := (xs.drop (HT.sIx xs.length 0 lo)).take (HT.sIx xs.length xs.length hi - HT.sIx xs.length 0 lo)
theorem cutV_length (xs : List V) (lo hi : Option Int) : (cutV xs lo hi).length ≤ xs.length := by
  unfold cutV
  rw [List.length_take, List.length_drop]
  omega
/-- t[lo:hi], not the whole of it (the whole would be t itself) -/
def rSlT (K : PySem.W.Frag) : V → Option Int → Option Int → Hp → VK → Prop := fun x lo hi H Q => ∃ a xs, x = .ref a ∧ SqT K H a xs ∧
  ¬ (HT.sIx xs.length 0 lo = 0 ∧ HT.sIx xs.length xs.length hi = xs.length) ∧ ∀ p, H p = none → Q (.ref p) (upd H p (.tup (cutV xs lo hi)))
theorem sl_tup : SlR X (rSlT X.K) := by
  intro pins s σ H x v vl vu lo hi sl Q I rx hs pl pu h
  obtain ⟨a, xs, rfl, hx, hw, q⟩ := h
  cases rx
  obtain ⟨its, r, ht, hz⟩ := I.tuple hx
  have hlen : its.toArray.size = xs.length := by rw [List.size_toArray]; exact r.length.symm
  refine ⟨"tuple", _, PyProof.Rows.slot_tuple_getitem.lookup, ht.typeIs, ?_⟩
  refine HT.getItem_tuple_cut ht hs pl pu (by rw [hlen]; exact hw) ?_ (by rw [hlen]; exact hz)
  rw [hlen]
  refine ⟨.ref s.heap.objs.size, _, I.laid (t' := s.toks) (o := .tup (cutV xs lo hi)) (fun b ob q => Heap.get?_push_of_some _ q) (Nat.le_refl _) ?_, rfl, q _ (I.hok.fresh (Nat.le_refl _))⟩
  exact ⟨Nat.le_trans (cutV_length xs lo hi) hz, _, (r.drop (HT.sIx xs.length 0 lo)).take (HT.sIx xs.length xs.length hi - HT.sIx xs.length 0 lo), IsTup.new _ _⟩

/-! ### t < u, t + u -/
def rLtT (K : PySem.W.Frag) : R2 := fun x y H Q => ∃ a b ns ms, x = .ref a ∧ y = .ref b ∧ SqT K H a (ns.map V.int) ∧ SqT K H b (ms.map V.int) ∧ Q (.bl (HT.lexLt ns ms)) H
/-- t + u, t not empty: u empty gives t itself -/
def rCatT (K : PySem.W.Frag) : R2 := fun x y H Q => ∃ a b xs ys, x = .ref a ∧ y = .ref b ∧ SqT K H a xs ∧ SqT K H b ys ∧ xs ≠ [] ∧ xs.length + ys.length ≤ sizeLine ∧
  (ys = [] → Q (.ref a) H) ∧ (ys ≠ [] → ∀ p, H p = none → Q (.ref p) (upd H p (.tup (xs ++ ys))))
theorem Vals.nil_iff {xs : List V} {us : List Value} (r : Vals xs us) : us = [] ↔ xs = [] := by
  cases r with
  | nil => simp
  | cons _ _ => simp
theorem op_catT : OpR X (binaryOp .Add) (rCatT X.K) := by
  intro pins s σ H x y v u Q I rx ry h
  obtain ⟨a, b, xs, ys, rfl, rfl, ha, hb, hx, hz, q1, q2⟩ := h
  cases rx
  cases ry
  obtain ⟨its, r1, p1, _⟩ := I.tuple ha
  obtain ⟨its2, r2, p2, _⟩ := I.tuple hb
  refine HT.cat_tup p1 p2 (fun z => hx (r1.nil_iff.mp z)) (fun z => ⟨.ref a, H, I, rfl, q1 (r2.nil_iff.mp z)⟩) (fun z => ?_) (by rw [← r1.length, ← r2.length]; exact hz)
  refine ⟨.ref s.heap.objs.size, _, I.laid (t' := s.toks) (o := .tup (xs ++ ys)) (fun b ob q => Heap.get?_push_of_some _ q) (Nat.le_refl _) ?_, rfl, q2 (fun w => z (r2.nil_iff.mpr w)) _ (I.hok.fresh (Nat.le_refl _))⟩
  exact ⟨by rw [List.length_append]; exact hz, _, r1.append r2, IsTup.new _ _⟩
end
end L2

namespace L2
open PySem PySem.Spec PyProof.Rows

/-! ### places -/
/-- the place that an index of any sign means -/
def ixN (n : Nat) (i : Int) : Option Nat := if 0 ≤ i then (if i < n then some i.toNat else none) else if -(n : Int) ≤ i then some (i + n).toNat else none
def atI {α : Type} (xs : List α) (i : Int) : Option α := (ixN xs.length i).bind fun j => xs[j]?
theorem ixN_seq {n : Nat} {i : Int} {j : Nat} (h : ixN n i = some j) : seqIndex? i n = some j ∧ j < n ∧ -(n : Int) ≤ i ∧ i < n := by
  unfold ixN at h
  by_cases h0 : 0 ≤ i
  · rw [if_pos h0] at h
    by_cases h1 : i < n
    · rw [if_pos h1] at h
      have e : i.toNat = j := Option.some.inj h
      exact ⟨by rw [seqIndex_of h0 h1, e], by omega, by omega, h1⟩
    · rw [if_neg h1] at h; cases h
  · rw [if_neg h0] at h
    by_cases h1 : -(n : Int) ≤ i
    · rw [if_pos h1] at h
      have e : (i + n).toNat = j := Option.some.inj h
      exact ⟨by rw [seqIndex_neg (by omega) h1, e], by omega, h1, by omega⟩
    · rw [if_neg h1] at h; cases h
theorem atI_get {α : Type} {xs : List α} {i : Int} {v : α} (h : atI xs i = some v) : ∃ j, seqIndex? i xs.length = some j ∧ xs[j]? = some v ∧ j < xs.length ∧ -(xs.length : Int) ≤ i ∧ i < xs.length := by
  unfold atI at h
  cases e : ixN xs.length i with
  | none => rw [e] at h; cases h
  | some j =>
    rw [e] at h
    obtain ⟨h1, h2, h3, h4⟩ := ixN_seq e
    exact ⟨j, h1, h, h2, h3, h4⟩
theorem atI_nat {α : Type} {xs : List α} {j : Nat} {v : α} (h : xs[j]? = some v) : atI xs (j : Int) = some v := by
  have hj : j < xs.length := (List.getElem?_eq_some_iff.mp h).1
  have e : ixN xs.length (j : Int) = some j := by
    unfold ixN
    rw [if_pos (by omega), if_pos (by omega)]; simp
  unfold atI; rw [e]; exact h
theorem atI_last {α : Type} (xs : List α) (v : α) : atI (xs ++ [v]) (-1) = some v := by
  have hl : (xs ++ [v]).length = xs.length + 1 := by simp
  have e : ixN (xs ++ [v]).length (-1) = some xs.length := by
    unfold ixN
    rw [hl, if_neg (by decide), if_pos (by omega)]
    congr 1
    omega
  unfold atI
  rw [e]
  show (xs ++ [v])[xs.length]? = some v
  simp

/-! ### what may be subscripted -/
/-- what stands as an index of a plain subscript -/
def PlainIx (b : Expr) : Prop := ∀ o i, subscripted b false o i = operate [o, i] (getItem o i)
/-- a subscript by values -/
def IxR (X : Cx) (r : R2) : Prop :=
  ∀ (value slice : Expr) (pins : List (Addr × Obj)) (s : Shared) (σ : St) (H : Hp) (x y : V) (v u : Value) (Q : VK), Inv X pins σ H s → RelV x v → RelV y u → r x y H Q →
    subscripted slice false v u = operate [v, u] (getItem v u) → wpAny (model X.prog X.w) X.A (subscriptTail value slice v u) (EP X pins σ Q) X.xe s
/-- a call of a builtin's method by values: the receiver, the arguments -/
def MtR (X : Cx) (id : String) (r : V → List V → Hp → VK → Prop) : Prop :=
  ∀ (pins : List (Addr × Obj)) (s : Shared) (σ : St) (H : Hp) (x : V) (xs : List V) (v : Value) (us : List Value) (Q : VK), Inv X pins σ H s → RelV x v → Vals xs us → r x xs H Q →
    wpAny (model X.prog X.w) X.A (call (.builtin id) (v :: us)) (EP X pins σ Q) X.xe s
section
variable {X : Cx} {a b : Expr} {ta tb : TE} {pos : Pos}
/-- a[b] -/
theorem pe_ix {r : R2} (hr : IxR X r) (ha : PE X a ta) (hb : PE X b tb) (hs : PlainIx b) : PE X (.Subscript a b pos) (tOp r ta tb) := by
  intro pins s σ H Q I h
  exact Subscript_ (binT ha hb I h fun v u s2 x y H2 I2 rx ry q => hr a b pins s2 σ H2 x y v u Q I2 rx ry q (hs _ _))

def rIxL (K : PySem.W.Frag) : R2 := fun x y H Q => ∃ p xs i v, x = .ref p ∧ y = .int i ∧ SqL K H p xs ∧ atI xs i = some v ∧ Q v H
def rIxT (K : PySem.W.Frag) : R2 := fun x y H Q => ∃ p xs i v, x = .ref p ∧ y = .int i ∧ SqT K H p xs ∧ atI xs i = some v ∧ Q v H
def rIxS : R2 := fun x y H Q => ∃ z i c, x = .str z ∧ y = .int i ∧ z.length ≤ sizeLine ∧ atI z.cps.toList i = some c ∧ Q (.str ⟨#[c]⟩) H
theorem ix_list : IxR X (rIxL X.K) := by
  intro value slice pins s σ H x y v u Q I rx ry h hs
  obtain ⟨p, xs, i, z, rfl, rfl, hq, he, q⟩ := h
  cases rx
  obtain ⟨t, rfl⟩ := ry
  obtain ⟨its, r, pl, hz⟩ := I.list hq
  obtain ⟨j, h1, h2, h3, h4, h5⟩ := atI_get he
  obtain ⟨w, ew, rw'⟩ := r.get h2
  have hl := r.length
  have hn := line63
  have fin : EP X pins σ Q w s := ⟨z, H, I, rw', q⟩
  by_cases h0 : 0 ≤ i
  · have hj : i.toNat = j := by
      rw [seqIndex_of h0 h5] at h1
      exact Option.some.inj h1
    exact item_listR pl.isList h0 (by omega) (by rw [hj]; simpa using ew) fin hs
  · have hj : (i + (its.toArray.size : Int)).toNat = j := by
      rw [seqIndex_neg (by omega) h4] at h1
      rw [List.size_toArray, ← hl]
      exact Option.some.inj h1
    exact subscriptTail_builtinR (x := w) pl.isList.typeIs slot_list_getitem.lookup
      (wpAny_getItem_list_neg (Q := fun r s' => r = w ∧ EP X pins σ Q r s') pl.isList (by omega) (by rw [List.size_toArray] <;> omega) (by omega) (by rw [hj]; simpa using ew) ⟨rfl, fin⟩) hs
theorem ix_tup : IxR X (rIxT X.K) := by
  intro value slice pins s σ H x y v u Q I rx ry h hs
  obtain ⟨p, xs, i, z, rfl, rfl, hq, he, q⟩ := h
  cases rx
  obtain ⟨t, rfl⟩ := ry
  obtain ⟨its, r, pl, hz⟩ := I.tuple hq
  obtain ⟨j, h1, h2, h3, h4, h5⟩ := atI_get he
  obtain ⟨w, ew, rw'⟩ := r.get h2
  have hl := r.length
  have hn := line63
  have fin : EP X pins σ Q w s := ⟨z, H, I, rw', q⟩
  exact subscriptTail_builtinR (x := w) pl.typeIs slot_tuple_getitem.lookup
    (getItem_tuple (j := j) (Q := fun r s' => r = w ∧ EP X pins σ Q r s') pl (by omega) (by omega) (by rw [List.size_toArray, ← hl]; exact h1) (by simpa using ew) ⟨rfl, fin⟩) hs
theorem ix_str : IxR X rIxS := by
  intro value slice pins s σ H x y v u Q I rx ry h hs
  obtain ⟨z, i, c, rfl, rfl, hz, he, q⟩ := h
  obtain ⟨t, rfl⟩ := rx
  obtain ⟨t', rfl⟩ := ry
  obtain ⟨j, h1, h2, h3, h4, h5⟩ := atI_get he
  have hl : z.cps.toList.length = z.length := by simp [Str.length]
  rw [hl] at h1 h4 h5
  have hn := line63
  exact tail_any (typeIs_str s z t) slot_str_getitem.lookup (getItem_str (c := c) (by
    have e1 : decide (i < -(2 ^ 63 : Int)) = false := decide_eq_false (by omega)
    have e2 : decide (i ≥ 2 ^ 63) = false := decide_eq_false (by omega)
    rw [e1, e2, Bool.or_false]) (by rw [h1]; simpa using h2) ⟨.str ⟨#[c]⟩, H, I.tok _, ⟨_, rfl⟩, q⟩) hs
/-- list, tuple or str -/
def rIx (K : PySem.W.Frag) : R2 := fun x y H Q => rIxL K x y H Q ∨ rIxT K x y H Q ∨ rIxS x y H Q
/-! ### xs[i] = v, any sign -/
/-- the list's object behind a store -/
theorem mapSeq_set (its : List Value) (n j : Nat) (u : Value) : Obj.mapSeq (·.setIfInBounds j u) { cls := .type "list", data := .seq its.toArray n } = { cls := .type "list", data := .seq (its.set j u).toArray n } := by
  simp [Obj.mapSeq]
theorem Inv.lst {pins : List (Addr × Obj)} {σ : St} {H : Hp} {s : Shared} {p : Addr} {xs : List V} (I : Inv X pins σ H s) (h : H p = some (.lst xs)) :
    ∃ (its : List Value) (n : Nat), Vals xs its ∧ s.heap.get? p = some { cls := .type "list", data := .seq its.toArray n } ∧ xs.length ≤ sizeLine := by
  obtain ⟨z, its, n, r, e⟩ := I.hok p _ h
  exact ⟨its, n, r, e, z⟩
/-- the list at p is written by an update of its object -/
theorem Inv.lstUpd {pins : List (Addr × Obj)} {σ : St} {H : Hp} {s : Shared} {p : Addr} {xs ys : List V} {its its' : List Value} {n n' : Nat} {f : Obj → Obj} (I : Inv X pins σ H s) (h : H p = some (.lst xs))
    (ho : s.heap.get? p = some { cls := .type "list", data := .seq its.toArray n }) (hf : f { cls := .type "list", data := .seq its.toArray n } = { cls := .type "list", data := .seq its'.toArray n' }) (r : Vals ys its') (hz : ys.length ≤ sizeLine) (t : Nat) :
    Inv X pins σ (upd H p (.lst ys)) { s with heap := s.heap.update p f, toks := t } := by
  have e : (s.heap.update p f).get? p = some { cls := .type "list", data := .seq its'.toArray n' } := by
    rw [Heap.get?_update_self f ho (by rw [hf] <;> rfl), hf]
  refine I.write (x := p) (e := p) (by rw [h]; trivial) (.inl rfl) (fun b u hb q => (Heap.get?_update_other _ _ (Ne.symm hb)).trans q) ⟨_, e⟩ ?_
  exact ⟨hz, its', n', r, e⟩
def rSetL : V → V → V → Hp → (Hp → Prop) → Prop := fun o i v H Q => ∃ p xs k j, o = .ref p ∧ i = .int k ∧ H p = some (.lst xs) ∧ ixN xs.length k = some j ∧ Q (upd H p (.lst (xs.set j v)))
theorem set_list : PSet X rSetL := by
  intro pins s σ H o i v ov iv u Q I ro ri rv h
  obtain ⟨p, xs, k, j, rfl, rfl, hp, hj, q⟩ := h
  cases ro
  obtain ⟨t, rfl⟩ := ri
  obtain ⟨its, n, r, ho, hz⟩ := I.lst hp
  obtain ⟨h1, h2, h3, h4⟩ := ixN_seq hj
  have hl := r.length
  have hn := line63
  have I' : Inv X pins σ (upd H p (.lst (xs.set j v))) { s with heap := s.heap.update p (Obj.mapSeq (·.setIfInBounds j u)) } :=
    I.lstUpd hp ho (mapSeq_set its n j u) (r.set rv j) (by rw [List.length_set]; exact hz) s.toks
  by_cases h0 : 0 ≤ k
  · have hk : k.toNat = j := by
      rw [seqIndex_of h0 h4] at h1
      exact Option.some.inj h1
    exact PySem.W.ki_setAt ho h0 (by omega) (by rw [List.size_toArray, ← hl]; exact h4) (by rw [hk]; exact ⟨_, I', q⟩)
  · have hk : (k + (its.toArray.size : Int)).toNat = j := by
      rw [seqIndex_neg (by omega) h3] at h1
      rw [List.size_toArray, ← hl]
      exact Option.some.inj h1
    exact PySem.W.ki_setBack ho (by omega) (by rw [List.size_toArray, ← hl]; exact h3) (by omega) (by rw [hk]; exact ⟨_, I', q⟩)

/-! ### slices -/
/-- xs[lo:hi] of a list: a new list -/
def rSlL (K : PySem.W.Frag) : V → Option Int → Option Int → Hp → VK → Prop := fun x lo hi H Q => ∃ a xs, x = .ref a ∧ SqL K H a xs ∧ ∀ p, H p = none → Q (.ref p) (upd H p (.lst (cutV xs lo hi)))
/-! ### in, not in: flat items -/
def flatV : V → Bool
  | .non => true
  | .bl _ => true
  | .int _ => true
  | .str _ => true
  | _ => false
/-- == of flat values -/
def eqV : V → V → Bool
  | .non, .non => true
  | .bl a, .bl b => a == b
  | .bl a, .int b => (if a then 1 else 0) == b
  | .int a, .bl b => a == (if b then 1 else 0)
  | .int a, .int b => a == b
  | .str a, .str b => a == b
  | _, _ => false
theorem eqAt_V {A : Around} {s : Shared} {y x : V} {u v : Value} (ry : RelV y u) (rx : RelV x v) (fy : flatV y = true) (fx : flatV x = true) : SeqAt.EqAt A s u v (eqV y x) := by
  cases y with
  | non =>
    cases ry
    cases x with
    | non => cases rx; exact SeqAt.EqAt.same _
    | bl b => cases rx; exact SeqAt.EqAt.none_bool b
    | int b => obtain ⟨t, rfl⟩ := rx; exact SeqAt.EqAt.none_int b t
    | str b => obtain ⟨t, rfl⟩ := rx; exact SeqAt.EqAt.none_str b t
    | _ => exact absurd (show false = true from fx) Bool.false_ne_true
  | bl a =>
    cases ry
    cases x with
    | non => cases rx; exact SeqAt.EqAt.bool_none a
    | bl b => cases rx; exact SeqAt.EqAt.bool_bool a b
    | int b => obtain ⟨t, rfl⟩ := rx; exact SeqAt.EqAt.bool_int a b t
    | str b => obtain ⟨t, rfl⟩ := rx; exact SeqAt.EqAt.bool_str a b t
    | _ => exact absurd (show false = true from fx) Bool.false_ne_true
  | int a =>
    obtain ⟨t', rfl⟩ := ry
    cases x with
    | non => cases rx; exact SeqAt.EqAt.int_none a t'
    | bl b => cases rx; exact SeqAt.EqAt.int_bool a t' b
    | int b => obtain ⟨t, rfl⟩ := rx; exact SeqAt.EqAt.int_int a t' b t
    | str b => obtain ⟨t, rfl⟩ := rx; exact SeqAt.EqAt.int_str a t' b t
    | _ => exact absurd (show false = true from fx) Bool.false_ne_true
  | str a =>
    obtain ⟨t', rfl⟩ := ry
    cases x with
    | non => cases rx; exact SeqAt.EqAt.str_none a t'
    | bl b => cases rx; exact SeqAt.EqAt.str_bool a t' b
    | int b => obtain ⟨t, rfl⟩ := rx; exact SeqAt.EqAt.str_int a t' b t
    | str b => obtain ⟨t, rfl⟩ := rx; exact SeqAt.EqAt.str_str a t' b t
    | _ => exact absurd (show false = true from fx) Bool.false_ne_true
  | _ => exact absurd (show false = true from fy) Bool.false_ne_true
/-- the items' answers, read off the values (a value's own answer does not lean on its token) -/
def eqU (x : V) (u : Value) : Bool := match u with
  | .none => eqV .non x
  | .bool b => eqV (.bl b) x
  | .int i _ => eqV (.int i) x
  | .str z _ => eqV (.str z) x
  | _ => false
theorem eqU_of {x y : V} {u : Value} (r : RelV y u) (f : flatV y = true) : eqU x u = eqV y x := by
  cases y with
  | non => cases r; rfl
  | bl b => cases r; rfl
  | int i => obtain ⟨t, rfl⟩ := r; rfl
  | str z => obtain ⟨t, rfl⟩ := r; rfl
  | _ => exact absurd (show false = true from f) Bool.false_ne_true
theorem any_eqU {x : V} : ∀ {xs : List V} {us : List Value}, Vals xs us → xs.all flatV = true → us.any (eqU x) = xs.any fun y => eqV y x
  | _, _, .nil, _ => rfl
  | y :: xs, u :: us, .cons r t, f => by
    rw [List.all_cons, Bool.and_eq_true] at f
    rw [List.any_cons, List.any_cons, eqU_of r f.1, any_eqU t f.2]
theorem mem_eqAt {A : Around} {s : Shared} {x : V} {v : Value} (rx : RelV x v) (fx : flatV x = true) : ∀ {xs : List V} {us : List Value}, Vals xs us → xs.all flatV = true → ∀ u ∈ us, SeqAt.EqAt A s u v (eqU x u)
  | _, _, .nil, _ => fun u hu => by cases hu
  | y :: xs, u :: us, .cons r t, f => fun u' hu => by
    rw [List.all_cons, Bool.and_eq_true] at f
    rcases List.mem_cons.mp hu with rfl | hu
    · rw [eqU_of r f.1]; exact eqAt_V r rx f.1 fx
    · exact mem_eqAt rx fx t f.2 u' hu
def inV (x : V) (xs : List V) : Bool := xs.any fun y => eqV y x
/-- x in a list or tuple of flat items -/
def rIn (K : PySem.W.Frag) (neg : Bool) : R2 := fun x y H Q => ∃ p xs, y = .ref p ∧ (SqL K H p xs ∨ SqT K H p xs) ∧ flatV x = true ∧ xs.all flatV = true ∧ Q (.bl (if neg then !inV x xs else inV x xs)) H
theorem op_in_seq : OpR X (compareOp .In) (rIn X.K false) := by
  intro pins s σ H x y v u Q I rx ry h
  obtain ⟨p, xs, rfl, hq, fx, fs, q⟩ := h
  cases ry
  rcases hq with hq | hq
  · obtain ⟨its, r, pl, hz⟩ := I.list hq
    refine SeqAt.in_listAt (eqU x) pl.isList (fun w hw => mem_eqAt rx fx r fs w (by simpa using hw)) ⟨.bl _, H, I, rfl, ?_⟩
    rw [show its.toArray.any (eqU x) = its.any (eqU x) by simp, any_eqU r fs]
    exact q
  · obtain ⟨its, r, pl, hz⟩ := I.tuple hq
    refine SeqAt.in_tupleAt (eqU x) pl (fun w hw => mem_eqAt rx fx r fs w (by simpa using hw)) ⟨.bl _, H, I, rfl, ?_⟩
    rw [show its.toArray.any (eqU x) = its.any (eqU x) by simp, any_eqU r fs]
    exact q
theorem op_notIn_seq : OpR X (compareOp .NotIn) (rIn X.K true) := by
  intro pins s σ H x y v u Q I rx ry h
  obtain ⟨p, xs, rfl, hq, fx, fs, q⟩ := h
  cases ry
  rcases hq with hq | hq
  · obtain ⟨its, r, pl, hz⟩ := I.list hq
    refine SeqAt.notIn_listAt (eqU x) pl.isList (fun w hw => mem_eqAt rx fx r fs w (by simpa using hw)) ⟨.bl _, H, I, rfl, ?_⟩
    rw [show its.toArray.any (eqU x) = its.any (eqU x) by simp, any_eqU r fs]
    exact q
  · obtain ⟨its, r, pl, hz⟩ := I.tuple hq
    refine SeqAt.notIn_tupleAt (eqU x) pl (fun w hw => mem_eqAt rx fx r fs w (by simpa using hw)) ⟨.bl _, H, I, rfl, ?_⟩
    rw [show its.toArray.any (eqU x) = its.any (eqU x) by simp, any_eqU r fs]
    exact q
/-! ### len, list(x), tuple(x) of any list or tuple that is read -/
theorem call_len_seq : CallR X (.builtin "len") (fun xs H Q => ∃ p ys, xs = [.ref p] ∧ (SqL X.K H p ys ∨ SqT X.K H p ys) ∧ Q (.int ys.length) H) := by
  intro pins s σ H xs us Q I r h
  obtain ⟨p, ys, rfl, hq, q⟩ := h
  obtain ⟨u, rfl, rx⟩ := vals1 r
  cases rx
  have hn := line63
  rcases hq with hq | hq
  · obtain ⟨its, r', pl, hz⟩ := I.list hq
    have hlen := r'.length
    exact Calls.call_len_list pl.isList (by simp only [List.size_toArray] <;> omega) ⟨.int ys.length, H, I.tok _, ⟨s.toks + 1, by rw [List.size_toArray, hlen]⟩, q⟩
  · obtain ⟨its, r', pl, hz⟩ := I.tuple hq
    have hlen := r'.length
    exact len_tuple pl (by simp only [List.size_toArray] <;> omega) ⟨.int ys.length, H, I.tok _, ⟨s.toks + 1, by rw [List.size_toArray, hlen]⟩, q⟩
theorem call_list_of : CallR X (.type "list") (fun xs H Q => ∃ p ys, xs = [.ref p] ∧ (SqL X.K H p ys ∨ SqT X.K H p ys) ∧ ∀ l, H l = none → Q (.ref l) (upd H l (.lst ys))) := by
  intro pins s σ H xs us Q I r h
  obtain ⟨p, ys, rfl, hq, q⟩ := h
  obtain ⟨u, rfl, rx⟩ := vals1 r
  cases rx
  have fin : ∀ (its : List Value), Vals ys its → ys.length ≤ sizeLine → ∀ (h' : Heap) (c' : Nat), (∀ b o', s.heap.get? b = some o' → h'.get? b = some o') →
      h'.get? s.heap.objs.size = some { cls := .type "list", dict := none, data := .seq its.toArray c', slots := #[] } → EP X pins σ Q (.ref s.heap.objs.size) { s with heap := h' } := fun its r' hz h' c' kp e =>
    ⟨.ref s.heap.objs.size, _, I.laid (t' := s.toks) kp (Nat.le_refl _) (show ObjOk X.prog X.w _ h' _ (.lst ys) from ⟨hz, its, c', r', e⟩), rfl, q _ (I.hok.fresh (Nat.le_refl _))⟩
  rcases hq with hq | hq
  · obtain ⟨its, r', pl, hz⟩ := I.list hq
    have hlen := r'.length
    obtain ⟨o, ho, hc, n, hd⟩ := pl.isList
    exact call_list_seq p (.inl rfl) ho hc hd (fun h' c' kp e => fin its r' hz h' c' kp e) (by simp only [List.size_toArray] <;> omega)
  · obtain ⟨its, r', pl, hz⟩ := I.tuple hq
    have hlen := r'.length
    obtain ⟨o, ho, hc, n, hd⟩ := pl
    exact call_list_seq p (.inr rfl) ho hc hd (fun h' c' kp e => fin its r' hz h' c' kp e) (by simp only [List.size_toArray] <;> omega)
theorem call_tuple_of : CallR X (.type "tuple") (fun xs H Q => ∃ p ys, xs = [.ref p] ∧ ((SqL X.K H p ys ∧ ∀ l, H l = none → Q (.ref l) (upd H l (.tup ys))) ∨ (SqT X.K H p ys ∧ Q (.ref p) H))) := by
  intro pins s σ H xs us Q I r h
  obtain ⟨p, ys, rfl, h⟩ := h
  obtain ⟨u, rfl, rx⟩ := vals1 r
  cases rx
  rcases h with ⟨hq, q⟩ | ⟨hq, q⟩
  · obtain ⟨its, r', pl, hz⟩ := I.list hq
    have hlen := r'.length
    refine call_tuple_list pl.isList (fun h' kp => ?_) (by simp only [List.size_toArray] <;> omega)
    have I1 : Inv X pins σ H { s with heap := h' } := I.kept (t' := s.toks) kp
    have I2 : Inv X pins σ (upd H h'.objs.size (.tup ys)) { s with heap := h'.push { cls := .type "tuple", data := .seq its.toArray } } :=
      I1.laid (t' := s.toks) (fun b o e => Heap.get?_push_of_some _ e) (Nat.le_refl _) (show ObjOk X.prog X.w _ _ _ (.tup ys) from ⟨hz, its, r', IsTup.new _ _⟩)
    exact ⟨.ref h'.objs.size, _, I2, rfl, q _ (I1.hok.fresh (Nat.le_refl _))⟩
  · obtain ⟨its, r', pl, hz⟩ := I.tuple hq
    exact call_tuple_same pl ⟨.ref p, H, I, rfl, q⟩

/-! ### the call of a builtin's method: o.m(..) -/
/-- the value is of that builtin type -/
def tyV (K : PySem.W.Frag) (T : String) (x : V) (H : Hp) : Prop := match x with
  | .str _ => T = "str"
  | .int _ => T = "int"
  | .ref p => (T = "list" ∧ ∃ xs, SqL K H p xs) ∨ (T = "tuple" ∧ ∃ o, K.lookup p = some o ∧ o.cls = .type "tuple" ∧ o.dict = none) ∨
      (T = "dict" ∧ ((∃ kvs, H p = some (.dK kvs)) ∨ ∃ kvs, H p = some (.dT kvs))) ∨ (T = "set" ∧ ∃ S n, H p = some (.set S n))
  | _ => False
theorem tyV_is {pins : List (Addr × Obj)} {σ : St} {H : Hp} {s : Shared} {T : String} {x : V} {v : Value} (I : Inv X pins σ H s) (r : RelV x v) (ty : tyV X.K T x H) :
    s.TypeIs v T ∧ ∀ a, v = .ref a → ∃ ob, s.heap.get? a = some ob ∧ ob.dict = none := by
  cases x with
  | str z =>
    obtain ⟨t, rfl⟩ := r
    cases (show T = "str" from ty)
    exact ⟨typeIs_str s z t, fun _ e => nomatch e⟩
  | int i =>
    obtain ⟨t, rfl⟩ := r
    cases (show T = "int" from ty)
    exact ⟨typeIs_int s i t, fun _ e => nomatch e⟩
  | ref p =>
    cases r
    rcases ty with ⟨rfl, xs, hq⟩ | ⟨rfl, o, hk, hc, hd⟩ | ⟨rfl, hk⟩ | ⟨rfl, S, n, hk⟩
    · obtain ⟨its, _, pl, _⟩ := I.list hq
      refine ⟨pl.isList.typeIs, fun a e => ?_⟩
      cases e
      obtain ⟨o, n, e, c, hd, _⟩ := pl
      exact ⟨o, e, hd⟩
    · refine ⟨⟨o, I.kIn p o hk, hc⟩, fun a e => ?_⟩
      cases e
      exact ⟨o, I.kIn _ o hk, hd⟩
    · have z : ∃ o, s.heap.get? p = some o ∧ o.ExactDict := by
        rcases hk with ⟨kvs, hk⟩ | ⟨kvs, hk⟩
        · obtain ⟨_, _, _, _, o, _, _, e, ex, _⟩ := I.hok p _ hk
          exact ⟨o, e, ex⟩
        · obtain ⟨_, _, _, _, o, _, _, e, ex, _⟩ := I.hok p _ hk
          exact ⟨o, e, ex⟩
      obtain ⟨o, e, ex⟩ := z
      refine ⟨⟨o, e, ex.1⟩, fun a e2 => ?_⟩
      cases e2
      exact ⟨o, e, ex.2.1⟩
    · obtain ⟨o, _, _, _, e, ex, _⟩ := I.hok p _ hk
      refine ⟨⟨o, e, ex.1⟩, fun a e2 => ?_⟩
      cases e2
      exact ⟨o, e, ex.2.1⟩
  | _ => exact False.elim ty
def tBM0 (K : PySem.W.Frag) (T : String) (r : V → List V → Hp → VK → Prop) (to : TE) : TE := fun σ H Q => to σ H fun x H1 => tyV K T x H1 ∧ r x [] H1 Q
def tBM (K : PySem.W.Frag) (T : String) (r : V → List V → Hp → VK → Prop) (to : TE) (t : TA) : TE := fun σ H Q => to σ H fun x H1 => tyV K T x H1 ∧ t σ H1 fun xs H2 => r x xs H2 Q
variable {o e : Expr} {es : List Expr} {to : TE} {t : TA} {name : Str} {apos cpos : Pos} {T id : String} {r : V → List V → Hp → VK → Prop}
theorem pe_bm0 (pa : PlainAttrs T) (slot : Slot T name id) (hty : typeOf (.builtin id) = pure (.type "method_descriptor")) (hm : MtR X id r) (ho : PE X o to)
    (hbase : attributeBase o name X.env (eval o X.env) = eval o X.env := by rfl) (hline : (apos.endLine == cpos.line) = true := by rfl) : PE X (.Call (.Attribute o name apos) [] [] cpos) (tBM0 X.K T r to) := by
  intro pins s σ H Q I h
  refine wpAny_Call_method0_late hbase hline (thn (ho pins s σ H _ I h) fun v s1 ⟨x, H1, I1, r1, ty, q1⟩ => ?_)
  obtain ⟨h1, h2⟩ := tyV_is I1 r1 ty
  exact ⟨T, id, pa, slot, hty, h1, h2, Calls.callWith_builtin rfl (PySem.evalArgs_none (hm pins s1 σ H1 x [] v [] Q I1 r1 .nil q1))⟩
theorem pe_bm (pa : PlainAttrs T) (slot : Slot T name id) (hty : typeOf (.builtin id) = pure (.type "method_descriptor")) (hm : MtR X id r) (ho : PE X o to) (ha : PA X (e :: es) t)
    (hbase : attributeBase o name X.env (eval o X.env) = eval o X.env := by rfl)
    (hfew : ((backTo cpos (starEach (e :: es) X.env)).all (fun x => !x.1) && (backToKw cpos (keywordEach [] X.env)).all (fun x => x.1.isSome)
      && decide ((e :: es).length + ([] : List Keyword).length + (if ([] : List Keyword).isEmpty then 0 else 1) < 30)) = true := by rfl)
    (hline : (apos.endLine == cpos.line) = true := by rfl) (hs : starEach (e :: es) X.env = (false, eval e X.env) :: starEach es X.env := by rfl) (hplain : (backTo cpos (starEach es X.env)).any (·.1) = false := by rfl) :
    PE X (.Call (.Attribute o name apos) (e :: es) [] cpos) (tBM X.K T r to t) := by
  intro pins s σ H Q I h
  refine wpAny_Call_method_late hbase hfew hline rfl (thn (ho pins s σ H _ I h) fun v s1 ⟨x, H1, I1, r1, ty, q1⟩ => ?_)
  obtain ⟨h1, h2⟩ := tyV_is I1 r1 ty
  refine ⟨T, id, pa, slot, hty, h1, h2, ?_⟩
  have hA := ha cpos pins s1 σ H1 _ I1 q1
  rw [hs] at hA ⊢
  refine Calls.callWith_builtin (by show (false || (backTo cpos (starEach es X.env)).any (·.1)) = false; rw [hplain] <;> rfl) (Calls.evalArgs_plain ?_)
  exact thn hA fun us s2 ⟨vs, H2, I2, r2, q2⟩ => hm pins s2 σ H2 x vs v us Q I2 r1 r2 q2
/- xs.append(e), list.index on a module's tuple .. are MtR facts of 06m -/
end
end L2

namespace L2
open PySem PySem.Spec PyProof.Rows

def MtM (X : Cx) (id : String) (r : V → List V → Hp → VK → Prop) : Prop :=
  ∀ (pins : List (Addr × Obj)) (s : Shared) (σ : St) (H : Hp) (x : V) (xs : List V) (v : Value) (us : List Value) (Q : VK), Inv X pins σ H s → RelV x v → Vals xs us → r x xs H Q →
    wpAny (model X.prog X.w) X.A (call (.builtin id) (v :: us)) (EP X pins σ Q) X.xe s

/-! ### lists of values -/
theorem Vals.one : ∀ {x : V} {us : List Value}, Vals [x] us → ∃ u, us = [u] ∧ RelV x u
  | _, _, .cons r .nil => ⟨_, rfl, r⟩
theorem Vals.zero : ∀ {us : List Value}, Vals [] us → us = []
  | _, .nil => rfl
theorem Vals.dropLast {xs : List V} {us : List Value} (h : Vals xs us) : Vals xs.dropLast us.dropLast := by
  induction h with
  | nil => exact .nil
  | cons r t ih =>
    cases t with
    | nil => exact .nil
    | cons q t' => exact .cons r ih
theorem Vals.reverse {xs : List V} {us : List Value} (h : Vals xs us) : Vals xs.reverse us.reverse := by
  induction h with
  | nil => exact .nil
  | cons r t ih => rw [List.reverse_cons, List.reverse_cons]; exact Vals.append ih (.cons r .nil)
theorem Vals.rep {xs : List V} {us : List Value} (h : Vals xs us) : ∀ k : Nat, Vals (List.replicate k xs).flatten (List.replicate k us).flatten
  | 0 => .nil
  | k + 1 => by
    rw [List.replicate_succ, List.replicate_succ, List.flatten_cons, List.flatten_cons]
    exact Vals.append h (Vals.rep h k)
theorem erase_last {α : Type} (l : List α) : l.eraseIdx (l.length - 1) = l.dropLast := by
  induction l with
  | nil => rfl
  | cons a r ih =>
    cases r with
    | nil => rfl
    | cons b r =>
      have e : (a :: b :: r).length - 1 = ((b :: r).length - 1) + 1 := by
        have h1 : (a :: b :: r).length = r.length + 2 := rfl
        have h2 : (b :: r).length = r.length + 1 := rfl
        omega
      rw [e, List.eraseIdx_cons_succ, ih]
      all_goals rfl
theorem foldl_rep (its : List Value) : ∀ (k : Nat) (acc : List Value),
    List.foldl (fun x1 x2 => x1 ++ x2) acc.toArray (List.replicate k its.toArray) = (acc ++ (List.replicate k its).flatten).toArray
  | 0, acc => by simp
  | k + 1, acc => by
    have e : acc.toArray ++ its.toArray = (acc ++ its).toArray := by simp
    have e2 : (acc ++ its) ++ (List.replicate k its).flatten = acc ++ (List.replicate (k + 1) its).flatten := by
      rw [List.replicate_succ, List.flatten_cons, List.append_assoc]
    rw [← e2, ← foldl_rep its k (acc ++ its), ← e, List.replicate_succ, List.foldl_cons]

section
variable {X : Cx} {pins : List (Addr × Obj)} {σ : St} {H : Hp} {s : Shared} {l b : Addr} {xs ys zs : List V}

/-! ### the two steps: a tracked list is rewritten, a new list is laid -/
theorem Inv.lset {its its' : List Value} {n : Nat} {f : Array Value → Array Value} {t' : Nat} (I : Inv X pins σ H s) (hH : H l = some (.lst xs))
    (e : s.heap.get? l = some { cls := .type "list", data := .seq its.toArray n }) (hf : f its.toArray = its'.toArray) (hv : Vals ys its') (hz : ys.length ≤ sizeLine) :
    Inv X pins σ (upd H l (.lst ys)) { s with heap := s.heap.update l (Obj.mapSeq f), toks := t' } := by
  have q := PySem.IsL.update e f
  rw [hf] at q
  refine I.write (x := l) (e := l) (by rw [hH]; exact trivial) (.inl rfl) (fun b' u hb hu => (Heap.get?_update_other s.heap (Obj.mapSeq f) (Ne.symm hb)).trans hu) ⟨_, q⟩ ?_
  exact ⟨hz, its', _, hv, q⟩
theorem Inv.lnew {its : List Value} {t' : Nat} (I : Inv X pins σ H s) (hv : Vals ys its) (hz : ys.length ≤ sizeLine) :
    Inv X pins σ (upd H s.heap.objs.size (.lst ys)) { s with heap := s.heap.push { cls := .type "list", data := .seq its.toArray }, toks := t' } :=
  I.laid (fun _ _ q => Heap.get?_push_of_some _ q) (Nat.le_refl _) ⟨hz, its, 0, hv, Heap.get?_push_size _ rfl⟩
theorem Inv.fresh (I : Inv X pins σ H s) : H s.heap.objs.size = none := I.hok.fresh (Nat.le_refl _)
theorem Inv.lstM (I : Inv X pins σ H s) (hH : H l = some (.lst xs)) : xs.length ≤ sizeLine ∧ ∃ (its : List Value) (n : Nat), Vals xs its ∧ xs.length = its.length ∧ s.heap.get? l = some { cls := .type "list", data := .seq its.toArray n } := by
  obtain ⟨z, its, n, r, e⟩ := I.hok l _ hH
  exact ⟨z, its, n, r, r.length, e⟩

theorem notLongL {n : Nat} (h : n ≤ sizeLine) : Builtin.List.listTooLong n = false := by
  unfold Builtin.List.listTooLong
  exact decide_eq_false (by omega)
end

section
variable {X : Cx}

/-! ### methods -/
def rAppend : V → List V → Hp → VK → Prop := fun x vs H Q => ∃ l xs y, x = .ref l ∧ vs = [y] ∧ H l = some (.lst xs) ∧ xs.length < sizeLine ∧ Q .non (upd H l (.lst (xs ++ [y])))
theorem mt_append : MtM X "list.append" rAppend := by
  intro pins s σ H x vs v us Q I rx rv h
  obtain ⟨l, xs, y, rfl, rfl, hH, hz, q⟩ := h
  cases rx
  obtain ⟨u, rfl, ru⟩ := rv.one
  obtain ⟨z, its, n, r, hl, e⟩ := I.lstM hH
  refine call_meets F.slot_list_append ⟨_, e, rfl⟩ F.entry_list_append (F.args_list_append_2 _ _) (PySem.list_append l its.toArray n u (by rw [List.size_toArray]; omega)) ⟨e, ?_⟩
  refine ⟨.non, _, I.lset (its' := its ++ [u]) hH e (by simp) (r.append (.cons ru .nil)) ?_, rfl, q⟩
  rw [List.length_append, List.length_singleton]
  omega

def rExtend : V → List V → Hp → VK → Prop := fun x vs H Q => ∃ l b xs zs, x = .ref l ∧ vs = [.ref b] ∧ H l = some (.lst xs) ∧ H b = some (.lst zs) ∧ xs.length + zs.length ≤ sizeLine ∧ Q .non (upd H l (.lst (xs ++ zs)))
theorem mt_extend : MtM X "list.extend" rExtend := by
  intro pins s σ H x vs v us Q I rx rv h
  obtain ⟨l, b, xs, zs, rfl, rfl, hH, hB, hz, q⟩ := h
  cases rx
  obtain ⟨u, rfl, ru⟩ := rv.one
  cases ru
  obtain ⟨z, its, n, r, hl, e⟩ := I.lstM hH
  obtain ⟨z2, its2, n2, r2, hl2, e2⟩ := I.lstM hB
  have hsz : its.toArray.size + its2.toArray.size ≤ sizeLine := by rw [List.size_toArray, List.size_toArray]; omega
  have hlong : ¬ (!its.toArray.isEmpty && Builtin.List.listTooLong (its.toArray.size + its2.toArray.size)) = true := by
    rw [notLongL hsz, Bool.and_false]
    exact Bool.false_ne_true
  refine call_meets F.slot_list_extend ⟨_, e, rfl⟩ F.entry_list_extend (F.args_list_extend_2 _ _)
    (AutoSeq1.list_extend_list_list_0 l its.toArray n b its2.toArray n2 hlong (by rw [List.size_toArray]; omega) (by omega)) ⟨e, e2, ?_⟩
  refine ⟨.non, _, I.lset (its' := its ++ its2) hH e (by simp) (r.append r2) ?_, rfl, q⟩
  rw [List.length_append]
  omega

def rPop : V → List V → Hp → VK → Prop := fun x vs H Q => ∃ l xs y, x = .ref l ∧ vs = [] ∧ H l = some (.lst xs) ∧ xs[xs.length - 1]? = some y ∧ Q y (upd H l (.lst xs.dropLast))
theorem mt_pop : MtM X "list.pop" rPop := by
  intro pins s σ H x vs v us Q I rx rv h
  obtain ⟨l, xs, y, rfl, rfl, hH, hy, q⟩ := h
  cases rx
  have hus := rv.zero
  subst hus
  obtain ⟨z, its, n, r, hl, e⟩ := I.lstM hH
  obtain ⟨u, hu, ru⟩ := r.get hy
  have hy' : its.toArray[its.toArray.size - 1]? = some u := by
    show its.toArray[its.length - 1]? = some u
    rw [← Array.getElem?_toList, ← hl]
    exact hu
  refine call_meets F.slot_list_pop ⟨_, e, rfl⟩ F.entry_list_pop (F.args_list_pop_1 _) (MeetsSeq.list_pop_last l its.toArray n u hy' (by rw [List.size_toArray]; omega)) ⟨e, ?_⟩
  refine ⟨y, _, I.lset (its' := its.dropLast) hH e ?_ r.dropLast ?_, ru, q⟩
  · show its.toArray.eraseIdxIfInBounds (its.toArray.size - 1) = its.dropLast.toArray
    rw [List.size_toArray, List.eraseIdxIfInBounds_toArray, erase_last]
  · rw [List.length_dropLast]
    omega

def rPopAt : V → List V → Hp → VK → Prop := fun x vs H Q => ∃ l xs i k y, x = .ref l ∧ vs = [.int i] ∧ H l = some (.lst xs) ∧ -(2 ^ 63) ≤ i ∧ i < 2 ^ 63 ∧ seqIndex? i xs.length = some k ∧ xs[k]? = some y ∧ Q y (upd H l (.lst (xs.eraseIdx k)))
def rReverse : V → List V → Hp → VK → Prop := fun x vs H Q => ∃ l xs, x = .ref l ∧ vs = [] ∧ H l = some (.lst xs) ∧ Q .non (upd H l (.lst xs.reverse))
def rClear : V → List V → Hp → VK → Prop := fun x vs H Q => ∃ l xs, x = .ref l ∧ vs = [] ∧ H l = some (.lst xs) ∧ Q .non (upd H l (.lst []))
theorem mt_clear : MtM X "list.clear" rClear := by
  intro pins s σ H x vs v us Q I rx rv h
  obtain ⟨l, xs, rfl, rfl, hH, q⟩ := h
  cases rx
  have hus := rv.zero
  subst hus
  obtain ⟨z, its, n, r, hl, e⟩ := I.lstM hH
  refine call_meets F.slot_list_clear ⟨_, e, rfl⟩ F.entry_list_clear (F.args_list_clear_1 _) (AutoSeq1.list_clear_list_0 l its.toArray n (by rw [List.size_toArray]; omega)) ⟨e, ?_⟩
  exact ⟨.non, _, I.lset (its' := []) (ys := []) hH e rfl .nil (Nat.zero_le _), rfl, q⟩

/-! ### list + list, list += list, list * int -/
def rCat : R2 := fun x y H Q => ∃ l b xs zs, x = .ref l ∧ y = .ref b ∧ H l = some (.lst xs) ∧ H b = some (.lst zs) ∧ xs.length + zs.length ≤ sizeLine ∧ ∀ p, H p = none → Q (.ref p) (upd H p (.lst (xs ++ zs)))
theorem op_cat : OpR X (binaryOp .Add) rCat := by
  intro pins s σ H x y v u Q I rx ry h
  obtain ⟨l, b, xs, zs, rfl, rfl, hH, hB, hz, q⟩ := h
  cases rx
  cases ry
  obtain ⟨z, its, n, r, hl, e⟩ := I.lstM hH
  obtain ⟨z2, its2, n2, r2, hl2, e2⟩ := I.lstM hB
  refine PySem.P.add_list e e2 ?_ (by rw [List.size_toArray, List.size_toArray]; omega)
  have ea : its.toArray ++ its2.toArray = (its ++ its2).toArray := by simp
  rw [ea]
  exact ⟨.ref _, _, I.lnew (t' := s.toks) (r.append r2) (by rw [List.length_append]; omega), rfl, q _ I.fresh⟩
/-- a list times an int (a negative one is nothing) -/
def rRep : R2 := fun x y H Q => ∃ l k xs, x = .ref l ∧ y = .int k ∧ H l = some (.lst xs) ∧ -(2 ^ 63) ≤ k ∧ k < 2 ^ 63 ∧ xs.length * k.toNat ≤ sizeLine ∧
  ∀ p, H p = none → Q (.ref p) (upd H p (.lst (List.replicate k.toNat xs).flatten))
theorem len_rep {α : Type} (xs : List α) (k : Nat) : (List.replicate k xs).flatten.length = k * xs.length := by
  induction k with
  | zero => simp
  | succ k ih => rw [List.replicate_succ, List.flatten_cons, List.length_append, ih, Nat.succ_mul, Nat.add_comm]
theorem op_rep : OpR X (binaryOp .Mult) rRep := by
  intro pins s σ H x y v u Q I rx ry h
  obtain ⟨l, k, xs, rfl, rfl, hH, h1, h2, hz, q⟩ := h
  cases rx
  obtain ⟨t, rfl⟩ := ry
  obtain ⟨z, its, n, r, hl, e⟩ := I.lstM hH
  have hlen : its.toArray.size * k.toNat ≤ sizeLine := by rw [List.size_toArray, ← hl]; exact hz
  have hcap : ¬ its.toArray.size * k.toNat > (2 ^ 63 - 1) / 8 := by
    have : (sizeLine : Nat) ≤ (2 ^ 63 - 1) / 8 := by decide
    omega
  have hfit : ¬ (!Builtin.List.listFitsIndex k) = true := by
    rw [fitsIndex_both h1 h2]
    exact Bool.false_ne_true
  have hlong : ¬ Builtin.List.listTooLong (its.toArray.size * k.toNat) = true := by
    rw [notLongL hlen]
    exact Bool.false_ne_true
  have hnew : List.foldl (fun x1 x2 => x1 ++ x2) #[] (List.replicate (if its.toArray.isEmpty = true then 0 else k.toNat) its.toArray) = (List.replicate k.toNat its).flatten.toArray := by
    have f0 : ∀ m : Nat, List.foldl (fun x1 x2 => x1 ++ x2) #[] (List.replicate m its.toArray) = (List.replicate m its).flatten.toArray := fun m => by
      have := foldl_rep its m []
      rw [List.nil_append] at this
      exact this
    rw [f0]
    cases its with
    | nil => simp
    | cons a r' => rw [if_neg (by simp)]
  refine wpAny_binaryOp_repeat_ref (T := "list") (U := "int") (by decide) ⟨_, e, rfl⟩ (fun s' => typeIs_int s' k t) noFill_list_mul F.fills_int_mul F.slot_int_rmul repeat_list F.slot_int_index.lookup
    (call_meets F.slot_int_rmul (typeIs_int s k t) F.entry_int_rmul (F.args_int_rmul_2 _ _) (int___rmul___int_list k t l its.toArray n)
      ⟨e, rfl, ⟨_, e, rfl⟩, call_meets F.slot_list_mul ⟨_, e, rfl⟩ F.entry_list_mul (F.args_list_mul_2 _ _) (AutoListH.list___mul___list_int_3 l its.toArray n k t hfit hcap hlong) ⟨e, ?_⟩⟩)
  rw [hnew]
  exact ⟨.ref _, _, I.lnew (t' := s.toks) (r.rep k.toNat) (by rw [len_rep, Nat.mul_comm]; exact hz), rfl, q _ I.fresh⟩

/-! ### del xs[i] -/
end

/-! ### xs[a:b] = ys -/
section
variable {prog : Program} {w : World} {A : Around} {E : Value → Shared → Prop} {s : Shared}
set_option maxRecDepth 100000 in
end

section
variable {X : Cx}
end
end L2

namespace Att
open PySem PySem.W PySem.Calls PyProof.Rows

/-! ### the script -/
theorem ints_of_wellAll {P : Params} {h : Heap} : ∀ (ns : List Int) (vs : List Value), WellAll P h vs (ns.map WData.int) → IntsAre vs ns := by
  intro ns
  induction ns with
  | nil =>
    intro vs w
    rw [List.map_nil] at w
    cases w
    exact .nil
  | cons n ns ih =>
    intro vs w
    rw [List.map_cons] at w
    cases w with
    | cons a b =>
      cases a
      exact .cons _ _ (ih _ b)

theorem script_of {l : OpenLaw} {n : Nat} (hn : l.most = some n) {P : Params} {h : Heap} {args : List WData} {vals : List Value}
    (hpre : l.row.toRowW.claim.pre args = true) (hwl : WellAll P h vals args) :
    ∃ a vs ns, vals = [Value.ref a] ∧ args = [WData.list (ns.map WData.int)] ∧ h.get? a = some { cls := .type "list", data := .seq vs.toArray } ∧ IntsAre vs ns ∧ ns.length ≤ n := by
  have hsh : WShape.hasAll [] args [.list .int] = true := (pre_splitW hpre).1
  have hc : l.pre.holds [] { args := args } = true := (pre_splitW hpre).2
  obtain ⟨d, r, rfl, h1, h2⟩ := hasAllW_cons hsh
  obtain rfl := hasAllW_nil h2
  obtain ⟨xs, rfl, h3⟩ := hasW_list h1
  obtain ⟨ns, rfl⟩ := items_int h3
  have hlen : ns.length ≤ n := by
    unfold OpenLaw.pre at hc
    have h4 : (WTm.not (.lt (.lit (.int (n : Int))) (.len (.arg 0)))).holds [] { args := [.list (ns.map .int)] } = true := by
      have h4 := (holds_andW hc).1
      rw [hn] at h4
      exact h4
    have h5 := condW_of h4 (w_not (w_lt w_lit (w_len_list (w_arg rfl))))
    rw [List.length_map] at h5
    refine Nat.le_of_not_lt fun q => ?_
    have q' : (n : Int) < ((ns.length : Nat) : Int) := by omega
    first
      | (rw [decide_eq_true q'] at h5; exact absurd h5 (by decide))
      | (simp at h5; omega)
  cases hwl with
  | cons w1 w2 =>
    cases w2
    cases w1 with
    | list ho hall => exact ⟨_, _, ns, rfl, rfl, ho, ints_of_wellAll ns _ hall, hlen⟩

theorem post_true (l : OpenLaw) (args : List WData) : l.row.toRowW.claim.post args (.bool true) args = true :=
  postW_of (r := l.row.toRowW) (X := (true == true))
    (show WShape.has [] (.bool true) .bool = true by first | rfl | decide | simp [WShape.has, WShape.arms, WShape.armsAll])
    (show (WTm.eq .res (.lit (.bool true))).value [] { args := args, res := some (.bool true), after := args } = some (.bool (true == true)) from w_eq_bool (w_res rfl) w_lit) rfl

/-! ### the attachment: holds_open's last premise (the goal 'hc' behind k_head) from a wpAny of the law's body -/
/-- the same from a codeAny of the CALL (for a layer whose function contracts speak of calls) -/
theorem attach_call {l : OpenLaw} {n : Nat} {q : Program} {loose : List Str} {XP : (Str → Option Value) → Heap → Prop} {YP : World → Heap → Prop} {d : DefRec}
    (hn : l.most = some n) (hdf : d.params.defaults = [])
    (call : ∀ (w : World) (s₀ s₁ : Shared) (mg mb : Str → Option Value) (fa : Addr) (o : Obj) (pm cd doc : Value) (a : Addr) (vs : List Value) (ns : List Int),
      Ground q loose [] XP w s₀ mg mb s₁.heap → YP w s₁.heap →
      s₁.heap.get? fa = some o → o.data = .func (docDef d.name d.params d.body d.scope pm cd doc) → s₁.heap.CodeRec cd d.name → mg d.name = some (.ref fa) →
      s₁.heap.get? a = some { cls := .type "list", data := .seq vs.toArray } → IntsAre vs ns → ns.length ≤ n → s₁.gens = #[] →
      codeAny (model l.prog w) callerA (.call (.ref fa) ⟨[.ref a], []⟩) (fun r s' => r = .ok (.ret (.bool true)) ∧ OldK s₁.heap s'.heap ∧ s'.os = s₁.os ∧ AllBare s'.gens) s₁) :
    WalkO q loose XP YP l.row.toRowW d [] (fun f vs => PySem.call f vs) := by
  intro w s₀ s₁ mg mb G Y fa o pm cd doc dV kV ho hd hcd hD hmg hg args vals as hpre hlay hrd hwl hlo
  obtain rfl : dV = .none := Dflts.none hD hdf
  obtain rfl : kV = .none := Dflts.noKw hD
  obtain ⟨a, vs, ns, rfl, rfl, hobj, hints, hlen⟩ := script_of hn hpre hwl
  refine enter_call (codeAny_mono (call w s₀ s₁ mg mb fa o pm cd doc a vs ns G Y ho (fd_plain hd) hcd hmg hobj hints hlen hg) fun r s' hq => ?_)
  obtain ⟨rfl, h2, h3, h4⟩ := hq
  exact ⟨.inl ⟨.bool true, .bool true, [], rfl, fun _ => rfl, .bool true, post_true l _, fun _ => ⟨List.Pairwise.nil, fun _ hm => (nomatch hm)⟩⟩, h2, h3, h4⟩

/-! ### rules over ANY heap (no ledger) from facts about the written part K: the library's own take a ledger (News) for what they write -/
section
variable {prog : Program} {w : World} {A : Around} {E : Value → Shared → Prop} {s : Shared} {K : Frag}

/-! the whole heap as the ledger: makes every rule that writes through a ledger a rule over any heap -/
def noObjs (h : Heap) : Heap := { h with objs := #[] }
def ledger (h : Heap) (L d : Addr) : List (Addr × Obj) := (List.range h.objs.size).filterMap fun a => if a = L ∨ a = d then none else (h.get? a).map fun o => (a, o)
end
end Att

namespace L2
open PySem PySem.Spec PyProof.Rows

theorem vals_ints : ∀ {vs : List Value} {ns : List Int}, IntsAre vs ns → Vals (ns.map V.int) vs
  | _, _, .nil => .nil
  | _, _, .cons n t h => .cons ⟨t, rfl⟩ (vals_ints h)

/-- nothing is tracked but the script, known to the object (or it is an object of the module) -/
def Only (H : Hp) : Prop := ∀ b, H b = none ∨ ∃ o xs, H b = some (.frz o (.lst xs))

end L2

namespace L2
open PySem PySem.Spec PyProof.Rows

abbrev KOf {K : PySem.W.Frag} {h : Heap} (_ : K.In h) : PySem.W.Frag := K

end L2

/- THE LAST THEOREM (shape; LID, My.* are yours):
   My.Adr: a structure of the addresses that your layer names (classes, functions); My.Txt K t: a structure (Prop) of the equations over K;
   My.txt_mk : {K} {implicit addresses ..} (e1 : nsIn K mainGlobals "law" = some (some (.ref f))) (e2 : K.lookup f = some ⟨oc, od, .func (fnOf "law" "law" params body scope dV kV doc pm an cdv ct), sl⟩) (e3 : codeIn K cdv "law" = true) .. : ∃ t, My.Txt K t

set_option maxRecDepth 100000 in
set_option maxHeartbeats 0 in
theorem PySem.Challenge.cw_LID_holds : PySem.Challenge.rw_LID.Holds := by
  w_on; o_law; k_head; (case hw => w_witness2)
  k_fill
  refine L2.walk_of (l := PySem.Challenge.rw_LID) (n := 63) (k := 40) (x := "script") (CX := fun w => ..) (sp := fun _ => My.sp_law) rfl (by decide) rfl ⟨rfl, by decide, by decide⟩ (fun w h Y => PySem.W.kIn_of Y) ?F ?S ?C
  case F =>
    intro w mg fa h KX G hmg
    have T : ∃ t, My.Txt (L2.KOf KX) t := by
      dsimp only [L2.KOf]                          -- K must stand as «<heap const> w.params» for k_is
      refine' My.txt_mk ?e1 ?e2 ?e3 ..
      (case e1 => PySem.W.k_is)                    -- in the order: a name -> its address -> its object -> its parts
      (case e2 => PySem.W.k_is)
      ..
    obtain ⟨t, T⟩ := T
    have e0 := hmg.symm.trans (PySem.W.mg_of KX G T.law)
    cases e0                                       -- fa is the law's own address
    exact ⟨_, fun s u => .of_eq rfl, fun base kb nb => My.law_fn T kb nb⟩     -- if «.of_eq rfl» comes too early: refine' ⟨_, ?b, fun base kb nb => My.law_fn T kb nb⟩; exact fun s u => .of_eq rfl
  case S => exact fun w H a ns hl hO hS => ..
  case C => exact ..
(the tactic k_is has no namespace: write k_is) -/

/-! SHORT WORDS over the layer: a def of the text, its body, what a loop and a test want. -/
namespace L2
open PySem PySem.Spec PyProof.Rows

/-! ### the text by places -/
/-- the j-th statement of a class's body -/
def inClass (s : Stmt) (j : Nat) : Stmt := match s with
  | .ClassDef _ _ _ body _ _ _ _ _ _ _ => body.getD j (.Pass ⟨0, 0, 0, 0⟩)
  | _ => .Pass ⟨0, 0, 0, 0⟩
def defArgs (s : Stmt) : Arguments := match s with
  | .FunctionDef _ a _ _ _ _ _ _ _ _ => a
  | _ => { posonlyargs := [], args := [], vararg := none, kwonlyargs := [], kw_defaults := [], kwarg := none, defaults := [] }
def defBody (s : Stmt) : List Stmt := match s with
  | .FunctionDef _ _ b _ _ _ _ _ _ _ => b
  | _ => []
def defScope (s : Stmt) : Scope := match s with
  | .FunctionDef _ _ _ _ _ _ sc _ _ _ => sc
  | _ => { kind := .function, names := [], isGenerator := false, isCoroutine := false }

/-! ### no exception leaves a def -/
abbrev CX0 : CXT := fun _ _ _ _ _ _ => False
abbrev E0 : XK := fun _ _ _ => False
theorem pass0 {X : Cx} : Passes CX0 X E0 := fun _ _ _ _ _ _ _ h => h.elim

/-! ### a def (or method) of the text as it stands behind the top -/
structure Fun (K : PySem.W.Frag) (x qual : Str) (st : Stmt) (f : Addr) (fd : FuncData) : Prop where
  ex : ∃ (oc : Value) (od : Option Addr) (kV doc pm : Value) (an : Option Addr) (cdv ct : Value) (osl : Array (Option Value)),
    fd = PySem.W.fnOf x qual (defArgs st) (defBody st) (defScope st) .none kV doc pm an cdv ct ∧ K.lookup f = some ⟨oc, od, .func fd, osl⟩ ∧ PySem.W.codeIn K cdv qual = true
  kp : PySem.W.keepIn K (.ref f) = true
section
variable {P : Program} {w : World} {K : PySem.W.Frag} {mg : Str → Option Value} {base : Heap}
/-- THE RULE for a def: its body as a term of rules, and the reading of that term -/
theorem Fun.ok {x qual : Str} {st : Stmt} {f : Addr} {fd : FuncData} {N ps : List Str} {k : Nat} {sp : Sp} (F : Fun K x qual st f fd) (S : FnScope N ps (defScope st)) (len : ∀ vs H Q E, sp vs H Q E → vs.length = ps.length)
    (hbody : ∀ (cdv : Value) (A : Around) (outer : List Env) (s : Shared) (H : Hp) (vs : List V) (Q : VK) (E : XK), Room k (A.deeper (envOfC qual (defScope st) s.heap.objs.size f cdv)) → sp vs H Q E →
      ∃ t, PSs (cxOf CX0 P w K mg base N qual (defScope st) f cdv A outer s H E).nox (defBody st) t ∧ t { nx := fun _ H' => Q .non H', rt := Q } (start N vs) H) : FnOk P w K mg base CX0 (k + 1) f fd ps sp := by
  obtain ⟨oc, od, kV, doc, pm, an, cdv, ct, osl, rfl, lk, hcd⟩ := F.ex
  refine fn_of lk hcd S len fun A outer s H vs Q E hr hsp => ?_
  obtain ⟨t, h, q⟩ := hbody cdv A outer s H vs Q E hr hsp
  exact ⟨t, h.nox, q⟩
/-- how its arguments bind (no defaults): h is «fun _ _ _ _ _ _ us hl => match us, hl with | [_, _], _ => rfl», one _ a parameter -/
theorem Fun.binds {x qual : Str} {st : Stmt} {f : Addr} {fd : FuncData} {ps : List Str} (F : Fun K x qual st f fd)
    (h : ∀ (kV doc pm : Value) (an : Option Addr) (cdv ct : Value) (us : List Value), us.length = ps.length → bindArgs (PySem.W.fnOf x qual (defArgs st) (defBody st) (defScope st) .none kV doc pm an cdv ct) ⟨us, []⟩ = pure (ps.zip us)) : Binds K fd ps [] := by
  obtain ⟨oc, od, kV, doc, pm, an, cdv, ct, osl, rfl, lk, hcd⟩ := F.ex
  exact .all (h kV doc pm an cdv ct)
theorem fun_mk {x qual : Str} {st : Stmt} {f : Addr} {oc : Value} {od an : Option Addr} {osl : Array (Option Value)} {kV doc pm cdv ct : Value} (l : K.lookup f = some ⟨oc, od, .func (PySem.W.fnOf x qual (defArgs st) (defBody st) (defScope st) .none kV doc pm an cdv ct), osl⟩)
    (c : PySem.W.codeIn K cdv qual = true) (k : PySem.W.keepIn K (.ref f) = true) : Fun K x qual st f (PySem.W.fnOf x qual (defArgs st) (defBody st) (defScope st) .none kV doc pm an cdv ct) := ⟨⟨oc, od, kV, doc, pm, an, cdv, ct, osl, rfl, l, c⟩, k⟩
end
theorem hu_of {A : Around} {k : Nat} (hr : Room k A) : A.units + 1 < cLine := Nat.lt_of_le_of_lt (Nat.add_le_add_left (by decide : 1 ≤ 64) _) hr.units
theorem small1000 {n : Nat} (h : n ≤ 1000) : n < sizeLine := Nat.lt_of_le_of_lt h (by decide)

/-! ### expressions in short: the name that stands in the i-th slot -/
section
variable {X : Cx}
theorem pv (i : Nat) {x : Str} {pos : Pos} (hN : X.N[i]? = some x := by rfl) (hv : Vis X.env.scope x := by first | exact Or.inl rfl | exact Or.inr (Or.inl rfl) | exact Or.inr (Or.inr rfl)) (hd : (x == ("__debug__" : Str)) = false := by decide)
    (hcd : (x == ("__classdict__" : Str)) = false := by decide) : PE X (.Name x pos) (tVar i) := pe_var hN hv hd hcd
end

/-! ### tests -/
theorem iteF {A B : Prop} (h : B) : if false = true then A else B := by
  rw [if_neg Bool.false_ne_true]
  exact h
theorem iteT {A B : Prop} (h : A) : if true = true then A else B := by
  rw [if_pos rfl]
  exact h
theorem ite2 {c A B : Prop} [Decidable c] (h1 : c → A) (h2 : ¬ c → B) : if c then A else B := by
  by_cases h : c
  · rw [if_pos h]
    exact h1 h
  · rw [if_neg h]
    exact h2 h
/-! ### heaps -/
/-- all that was tracked is as it was -/
def Same (H H' : Hp) : Prop := ∀ b o, H b = some o → H' b = some o
theorem Same.refl (H : Hp) : Same H H := fun _ _ h => h
theorem Same.trans {H H1 H2 : Hp} (a : Same H H1) (b : Same H1 H2) : Same H H2 := fun c o h => b c o (a c o h)
theorem Same.free {H H' : Hp} (e : Same H H') {l : Addr} (h : H' l = Option.none) : H l = Option.none := by
  cases q : H l with
  | none => rfl
  | some o =>
    rw [e l o q] at h
    cases h
theorem Same.seq {K : PySem.W.Frag} {H H' : Hp} {a : Addr} {xs : List V} (e : Same H H') (h : SqL K H a xs) : SqL K H' a xs := by
  rcases h with (h | ⟨o, h⟩) | h
  · exact .inl (.inl (e _ _ h))
  · exact .inl (.inr ⟨o, e _ _ h⟩)
  · exact .inr h

end L2

namespace GM
/-- the greatest common divisor, as an int -/
def G (a b : Int) : Int := (Int.gcd a b : Int)
theorem G_zero {a : Int} (h : 0 ≤ a) : G a 0 = a := by
  unfold G
  rw [Int.gcd_zero_right]
  omega
theorem G_step (a b : Int) : G b (a % b) = G a b := by
  unfold G
  congr 1
  have e : a % b = a - b * (a / b) := by
    have := Int.emod_add_mul_ediv a b
    omega
  rw [e, Int.gcd_sub_mul_left_right, Int.gcd_comm]
theorem G_pos {a b : Int} (h : 0 < b) : 0 < G a b := by
  unfold G
  have : 0 < Int.gcd a b := Int.gcd_pos_of_ne_zero_right a (by omega)
  omega
theorem G_dvd_l (a b : Int) : G a b ∣ a := Int.gcd_dvd_left a b
theorem G_dvd_r (a b : Int) : G a b ∣ b := Int.gcd_dvd_right a b
theorem G_le_r {a b : Int} (h : 0 < b) : G a b ≤ b := Int.le_of_dvd h (G_dvd_r a b)
/-- an amount in lowest terms -/
structure Amt (t b : Int) : Prop where
  t0 : 0 ≤ t
  b1 : 1 ≤ b
  g : G t b = 1
theorem low_amt {t b : Int} (h0 : 0 ≤ t) (h1 : 1 ≤ b) : Amt (t / G t b) (b / G t b) := by
  have gp := G_pos (a := t) (b := b) (by omega)
  refine ⟨Int.ediv_nonneg h0 (by omega), Int.ediv_pos_of_pos_of_dvd (by omega) (by omega) (G_dvd_r t b), ?_⟩
  unfold G at *
  have := Int.gcd_ediv_gcd_ediv_gcd (i := t) (j := b) (by omega)
  omega
end GM

namespace L2
open PySem PySem.Spec PyProof.Rows
/-! ### isinstance against a built-in type -/
inductive Isi (K : PySem.W.Frag) (H : Hp) : V → String → Bool → Prop where
  | int_int {n} : Isi K H (.int n) "int" true
  | int_bool {n} : Isi K H (.int n) "bool" false
  | int_tuple {n} : Isi K H (.int n) "tuple" false
  | int_str {n} : Isi K H (.int n) "str" false
  | int_list {n} : Isi K H (.int n) "list" false
  | bl_int {b} : Isi K H (.bl b) "int" true
  | bl_bool {b} : Isi K H (.bl b) "bool" true
  | bl_tuple {b} : Isi K H (.bl b) "tuple" false
  | bl_str {b} : Isi K H (.bl b) "str" false
  | str_int {x} : Isi K H (.str x) "int" false
  | str_bool {x} : Isi K H (.str x) "bool" false
  | str_tuple {x} : Isi K H (.str x) "tuple" false
  | str_str {x} : Isi K H (.str x) "str" true
  | non_int : Isi K H .non "int" false
  | non_str : Isi K H .non "str" false
  | non_tuple : Isi K H .non "tuple" false
  | tup_tuple {a xs} : SqT K H a xs → Isi K H (.ref a) "tuple" true
  | tup_int {a xs} : SqT K H a xs → Isi K H (.ref a) "int" false
  | tup_str {a xs} : SqT K H a xs → Isi K H (.ref a) "str" false
  | tup_list {a xs} : SqT K H a xs → Isi K H (.ref a) "list" false
  | lst_tuple {a xs} : SqL K H a xs → Isi K H (.ref a) "tuple" false
  | lst_int {a xs} : SqL K H a xs → Isi K H (.ref a) "int" false
  | lst_str {a xs} : SqL K H a xs → Isi K H (.ref a) "str" false
  | lst_list {a xs} : SqL K H a xs → Isi K H (.ref a) "list" true
section
variable {X : Cx}
theorem call_isi : CallR X (.builtin "isinstance") (fun xs H Q => ∃ x T b, xs = [x, .ty T] ∧ Isi X.K H x T b ∧ Q (.bl b) H) := by
  intro pins s σ H xs us Q I r h
  obtain ⟨x, T, b, rfl, hi, q⟩ := h
  obtain ⟨u, w', rfl, rx, ry⟩ := vals2 r
  cases ry
  have f1 : EP X pins σ Q (.bool b) s := ⟨.bl b, H, I, rfl, q⟩
  have f2 : EP X pins σ Q (.bool b) { s with toks := s.toks + 1 } := ⟨.bl b, H, I.tok _, rfl, q⟩
  cases hi with
  | int_int => obtain ⟨t, rfl⟩ := rx; exact IsiPair.int_int f1
  | int_bool => obtain ⟨t, rfl⟩ := rx; exact IsiPair.int_bool f2
  | int_tuple => obtain ⟨t, rfl⟩ := rx; exact IsiPair.int_tuple f2
  | int_str => obtain ⟨t, rfl⟩ := rx; exact IsiPair.int_str f2
  | int_list => obtain ⟨t, rfl⟩ := rx; exact IsiPair.int_list f2
  | bl_int => cases rx; exact IsiPair.bool_int f1
  | bl_bool => cases rx; exact IsiPair.bool_bool f1
  | bl_tuple => cases rx; exact IsiPair.bool_tuple f2
  | bl_str => cases rx; exact IsiPair.bool_str f2
  | str_int => obtain ⟨t, rfl⟩ := rx; exact IsiPair.str_int f2
  | str_bool => obtain ⟨t, rfl⟩ := rx; exact IsiPair.str_bool f2
  | str_tuple => obtain ⟨t, rfl⟩ := rx; exact IsiPair.str_tuple f2
  | str_str => obtain ⟨t, rfl⟩ := rx; exact IsiPair.str_str f1
  | non_int => cases rx; exact IsiPair.NoneType_int f2
  | non_str => cases rx; exact IsiPair.NoneType_str f2
  | non_tuple => cases rx; exact IsiPair.NoneType_tuple f2
  | tup_tuple hq => cases rx; obtain ⟨its, _, ⟨o, e, c, _⟩, _⟩ := I.tuple hq; exact IsiPair.tuple_tuple e c f1
  | tup_int hq => cases rx; obtain ⟨its, _, ⟨o, e, c, _⟩, _⟩ := I.tuple hq; exact IsiPair.tuple_int e c f2
  | tup_str hq => cases rx; obtain ⟨its, _, ⟨o, e, c, _⟩, _⟩ := I.tuple hq; exact IsiPair.tuple_str e c f2
  | tup_list hq => cases rx; obtain ⟨its, _, ⟨o, e, c, _⟩, _⟩ := I.tuple hq; exact IsiPair.tuple_list e c f2
  | lst_tuple hq => cases rx; obtain ⟨its, _, ⟨o, n, e, c, _⟩, _⟩ := I.list hq; exact IsiPair.list_tuple e c f2
  | lst_int hq => cases rx; obtain ⟨its, _, ⟨o, n, e, c, _⟩, _⟩ := I.list hq; exact IsiPair.list_int e c f2
  | lst_str hq => cases rx; obtain ⟨its, _, ⟨o, n, e, c, _⟩, _⟩ := I.list hq; exact IsiPair.list_str e c f2
  | lst_list hq => cases rx; obtain ⟨its, _, ⟨o, n, e, c, _⟩, _⟩ := I.list hq; exact IsiPair.list_list e c f1
/-! ### is, is not of bools -/
/-! ### == and != of tuples, at any depth: what the comparison tells -/
inductive DEq (K : PySem.W.Frag) (H : Hp) : Nat → V → V → Bool → Prop where
  | flat {n x y} : flatV x = true → flatV y = true → DEq K H n x y (eqV x y)
  | same {n a} : DEq K H n (.ref a) (.ref a) true
  | tup {n a b xs ys} {e : Nat → Bool} : a ≠ b → SqT K H a xs → SqT K H b ys → (∀ (j : Nat) x y, xs[j]? = some x → ys[j]? = some y → DEq K H n x y (e j)) →
      DEq K H (n + 1) (.ref a) (.ref b) ((List.range (min xs.length ys.length)).all e && xs.length == ys.length)
  | lst {n a b xs ys} {e : Nat → Bool} : a ≠ b → SqL K H a xs → SqL K H b ys → (∀ (j : Nat) x y, xs[j]? = some x → ys[j]? = some y → DEq K H n x y (e j)) →
      DEq K H (n + 1) (.ref a) (.ref b) ((List.range (min xs.length ys.length)).all e && xs.length == ys.length)
theorem tups_at {pins : List (Addr × Obj)} {σ : St} {H : Hp} {s : Shared} (I : Inv X pins σ H s) {A : Around} {a b : Addr} {xs ys : List V} {e : Nat → Bool} (hx : SqT X.K H a xs) (hy : SqT X.K H b ys) (hu : A.units < cLine)
    (hd : ∀ (j : Nat) x y u v, xs[j]? = some x → ys[j]? = some y → RelV x u → RelV y v → SeqAt.EqAt A.in1 s u v (e j)) :
    SeqAt.RcAt A s (.ref a) (.ref b) ((List.range (min xs.length ys.length)).all e && xs.length == ys.length) := by
  obtain ⟨its, r, tx, _⟩ := I.tuple hx
  obtain ⟨its', r', ty, _⟩ := I.tuple hy
  have l1 := r.length
  have l2 := r'.length
  have q := SeqAt.RcAt.tuples (A := A) (e := e) tx ty hu (fun j h1 h2 => ?_)
  · rw [List.size_toArray, List.size_toArray, ← l1, ← l2] at q
    exact q
  · rw [List.size_toArray] at h1 h2
    obtain ⟨x, hxj⟩ : ∃ x, xs[j]? = some x := ⟨_, List.getElem?_eq_getElem (by omega)⟩
    obtain ⟨y, hyj⟩ : ∃ y, ys[j]? = some y := ⟨_, List.getElem?_eq_getElem (by omega)⟩
    obtain ⟨u1, hu1, ru1⟩ := r.get hxj
    obtain ⟨u2, hu2, ru2⟩ := r'.get hyj
    have e1 : its.toArray[j] = u1 := by
      have := (List.getElem?_eq_some_iff.mp hu1).2
      simpa using this
    have e2 : its'.toArray[j] = u2 := by
      have := (List.getElem?_eq_some_iff.mp hu2).2
      simpa using this
    rw [e1, e2]
    exact hd j x y u1 u2 hxj hyj ru1 ru2
theorem isList_of {h : Heap} {a : Addr} {its : Array Value} (p : PlainL h a its) : h.IsList a its := by
  obtain ⟨o, n, e, c, _, d⟩ := p
  exact ⟨o, e, c, n, d⟩
theorem lsts_at {pins : List (Addr × Obj)} {σ : St} {H : Hp} {s : Shared} (I : Inv X pins σ H s) {A : Around} {a b : Addr} {xs ys : List V} {e : Nat → Bool} (hx : SqL X.K H a xs) (hy : SqL X.K H b ys) (hu : A.units < cLine)
    (hd : ∀ (j : Nat) x y u v, xs[j]? = some x → ys[j]? = some y → RelV x u → RelV y v → SeqAt.EqAt A.in1 s u v (e j)) :
    SeqAt.RcAt A s (.ref a) (.ref b) ((List.range (min xs.length ys.length)).all e && xs.length == ys.length) := by
  obtain ⟨its, r, tx, _⟩ := I.list hx
  obtain ⟨its', r', ty, _⟩ := I.list hy
  have l1 := r.length
  have l2 := r'.length
  by_cases hl : xs.length = ys.length
  · have q := SeqAt.RcAt.lists (A := A) (e := e) (isList_of tx) (isList_of ty) (by rw [List.size_toArray, List.size_toArray]; omega) hu (fun j h1 h2 => ?_)
    · rw [List.size_toArray, ← l1] at q
      have e1 : ((List.range (min xs.length ys.length)).all e && xs.length == ys.length) = (List.range xs.length).all e := by
        rw [← hl, Nat.min_self, beq_self_eq_true, Bool.and_true]
      rw [e1]
      exact q
    · rw [List.size_toArray] at h1 h2
      obtain ⟨x, hxj⟩ : ∃ x, xs[j]? = some x := ⟨_, List.getElem?_eq_getElem (by omega)⟩
      obtain ⟨y, hyj⟩ : ∃ y, ys[j]? = some y := ⟨_, List.getElem?_eq_getElem (by omega)⟩
      obtain ⟨u1, hu1, ru1⟩ := r.get hxj
      obtain ⟨u2, hu2, ru2⟩ := r'.get hyj
      have e1 : its.toArray[j] = u1 := by
        have := (List.getElem?_eq_some_iff.mp hu1).2
        simpa using this
      have e2 : its'.toArray[j] = u2 := by
        have := (List.getElem?_eq_some_iff.mp hu2).2
        simpa using this
      rw [e1, e2]
      exact hd j x y u1 u2 hxj hyj ru1 ru2
  · have q := SeqAt.RcAt.lists_lengths (A := A) (isList_of tx) (isList_of ty) (by rw [List.size_toArray, List.size_toArray, ← l1, ← l2, bne_iff_ne]; exact hl) hu
    have e1 : ((List.range (min xs.length ys.length)).all e && xs.length == ys.length) = false := by
      rw [beq_eq_false_iff_ne.mpr hl, Bool.and_false]
    rw [e1]
    exact q
theorem DEq.at {pins : List (Addr × Obj)} {σ : St} {H : Hp} {s : Shared} (I : Inv X pins σ H s) {n : Nat} {x y : V} {k : Bool} (d : DEq X.K H n x y k) : ∀ {A : Around} {u v : Value}, A.units + n < cLine → RelV x u → RelV y v → SeqAt.EqAt A s u v k := by
  induction d with
  | flat fx fy => intro A u v _ rx ry; exact eqAt_V rx ry fx fy
  | same => intro A u v _ rx ry; cases rx; cases ry; exact SeqAt.EqAt.same _
  | @tup n a b xs ys e hne hx hy hd ih =>
    intro A u v hu rx ry
    cases rx; cases ry
    exact SeqAt.EqAt.of_refs hne (tups_at I hx hy (by omega) fun j x y u v h1 h2 r1 r2 => ih j x y h1 h2 (by show A.units + 1 + n < cLine; omega) r1 r2)
  | @lst n a b xs ys e hne hx hy hd ih =>
    intro A u v hu rx ry
    cases rx; cases ry
    exact SeqAt.EqAt.of_refs hne (lsts_at I hx hy (by omega) fun j x y u v h1 h2 r1 r2 => ih j x y h1 h2 (by show A.units + 1 + n < cLine; omega) r1 r2)
/-- == of two tuples; the items' answers e -/
def rEqT (K : PySem.W.Frag) : R2 := fun x y H Q => ∃ a b xs ys, ∃ e : Nat → Bool, x = .ref a ∧ y = .ref b ∧ SqT K H a xs ∧ SqT K H b ys ∧ (∀ (j : Nat) x y, xs[j]? = some x → ys[j]? = some y → DEq K H 40 x y (e j)) ∧
  Q (.bl ((List.range (min xs.length ys.length)).all e && xs.length == ys.length)) H
def rNeT (K : PySem.W.Frag) : R2 := fun x y H Q => ∃ a b xs ys, ∃ e : Nat → Bool, x = .ref a ∧ y = .ref b ∧ SqT K H a xs ∧ SqT K H b ys ∧ (∀ (j : Nat) x y, xs[j]? = some x → ys[j]? = some y → DEq K H 40 x y (e j)) ∧
  Q (.bl (!((List.range (min xs.length ys.length)).all e && xs.length == ys.length))) H
theorem op_eqT (hu : X.A.units + 64 < cLine) : OpR X (compareOp .Eq) (rEqT X.K) := by
  intro pins s σ H x y v u Q I rx ry h
  obtain ⟨a, b, xs, ys, e, rfl, rfl, hx, hy, hd, q⟩ := h
  cases rx; cases ry
  exact tups_at I hx hy (by omega) (fun j x y u v h1 h2 r1 r2 => (hd j x y h1 h2).at I (by show X.A.units + 1 + 40 < cLine; omega) r1 r2) X.prog X.w X.xe _ ⟨.bl _, H, I, rfl, q⟩
end
end L2

namespace L2
open PySem PySem.Spec PyProof.Rows
/-! ### a list comprehension of one clause -/
/-- the loop of a comprehension, a turn at a time -/
theorem compLoop_gen {prog : Program} {w : World} {A : Around} {R : Result → Shared → Prop} {s : Shared} {elt target iter : Expr} {ifs : List Expr} {scope : Scope} {pos : Pos} {it acc : Value} {env : Env} (I : Nat → Shared → Prop)
    (turn : ∀ n s, I n s → wpAny (model prog w) A (pyNext it) (fun r s₁ => match r with
      | none => R (.ok .next) s₁
      | some v => wpAny (model prog w) A (letOwnedTupleGo target it v) (fun _ s₁' => wpAny (model prog w) A (assign target env v) (fun _ s₂ =>
          wpAny (model prog w) A (forIn ifs true fun c r => if r = true then do let ok ← isTrue c env (eval c env); pure (ForInStep.yield ok) else pure (ForInStep.yield r)) (fun ok s₃ =>
            if ok = true then wpAny (model prog w) A (eval elt env) (fun x s₄ =>
              wpAny (model prog w) A (call (.builtin "list.append") [acc, x]) (fun _ s₅ => ∃ m, m < n ∧ I m s₅) (fun _ _ => False) s₄) (fun _ _ => False) s₃
            else ∃ m, m < n ∧ I m s₃) (fun _ _ => False) s₂) (fun _ _ => False) s₁') (fun _ _ => False) s₁) (fun _ _ => False) s)
    (n : Nat) (h : I n s) : codeAny (model prog w) A (.compLoop (.ListComp elt [⟨target, iter, ifs, 0⟩] scope pos) 0 it acc env) R s := by
  refine codeAny_loop rfl I (fun n s hI => ?_) n h
  show wpAny _ A ((compTurn (.ListComp elt [⟨target, iter, ifs, 0⟩] scope pos) 0 it acc env).onRaise (fun x => do noteFrame x env; theTreesLotGoes x)) _ _ s
  refine wpAny_noted ?_
  rw [compTurn_list]
  refine wpAny_bind (wpAny_standAt (wpAny_bind (wpAny_mono (turn n s hI) (fun r s₁ h₁ => ?_) fun _ _ z => z.elim)))
  cases r with
  | none => exact wpAny_pure h₁
  | some v =>
    refine wpAny_bind (wpAny_mono h₁ (fun _ s₁' h₁' => ?_) fun _ _ z => z.elim)
    refine wpAny_bind (wpAny_mono h₁' (fun _ s₂ h₂ => wpAny_bind (wpAny_mono h₂ (fun ok s₃ h₃ => ?_) fun _ _ z => z.elim)) fun _ _ z => z.elim)
    cases ok with
    | false => exact wpAny_pure ⟨rfl, h₃⟩
    | true =>
      exact wpAny_bind (wpAny_bind (wpAny_mono h₃ (fun x s₄ h₄ => wpAny_bind (wpAny_mono h₄ (fun _ s₅ h₅ => wpAny_pure (wpAny_pure ⟨rfl, h₅⟩)) fun _ _ z => z.elim)) fun _ _ z => z.elim))
/-- the block's context -/
def blk (X : Cx) (N' : List Str) (scope : Scope) (cl : List (Str × Addr)) (C : Addr) (s₀ : Shared) (H₀ : Hp) (ex : List Addr) (pn : List (Addr × Obj)) : Cx where
  prog := X.prog
  w := X.w
  K := X.K
  mg := X.mg
  base := X.base
  A := X.A
  N := N'
  s₀ := s₀
  H₀ := H₀
  env := compEnvC scope cl C X.env
  outer := X.stack
  stack := X.stack
  ex := ex
  fn := fun _ => false
  calm := X.calm
  pn := pn
  xe := fun _ _ => False
structure ClOk (X : Cx) (scope : Scope) (cl : List (Str × Addr)) : Prop where
  run : closureFor scope X.env = pure cl
  sub : ∀ x c, cl.lookup x = some c → X.env.cells.lookup x = some c
  has : ∀ x, ((relabel scope X.env).names.lookup x = some .cell ∨ (relabel scope X.env).names.lookup x = some .free) → ∃ c, cl.lookup x = some c
/-- the names that the block takes over stand in cells -/
structure BlkN (X : Cx) (N' : List Str) (scope : Scope) (cl : List (Str × Addr)) (σ σ' : St) : Prop where
  len : σ'.length = N'.length
  from' : ∀ (i : Nat) (x : Str) (v : V), N'[i]? = some x → σ'[i]? = some (some v) → ∃ j : Nat, X.N[j]? = some x ∧ σ[j]? = some (some v) ∧ Vis X.env.scope x ∧ X.env.kindOf x ≠ some .local ∧
    ((relabel scope X.env).names.lookup x = some .cell ∨ (relabel scope X.env).names.lookup x = some .free)
section
variable {X : Cx} {pins : List (Addr × Obj)} {σ σ' : St} {H : Hp} {s : Shared}
theorem blk_start {N' : List Str} {scope : Scope} {cl : List (Str × Addr)} {fp : List Addr} {h₁ : Heap} {t' : Nat} (I : Inv X pins σ H s) (hkind : scope.kind = .function) (hcl : ClOk X scope cl) (hN : BlkN X N' scope cl σ σ') (hf : ∀ b ∈ fp, FpOk X pins H b) (hfo : ∀ b ∈ fp, b < s.heap.objs.size)
    (hns : h₁.Ns s.heap.objs.size (fun _ => none)) (hk : ∀ b o, s.heap.get? b = some o → h₁.get? b = some o) :
    Inv (blk X N' scope cl s.heap.objs.size s H fp (X.pn ++ pins)) [] σ' H { s with heap := h₁, toks := t' } := by
  have hfs : ∀ b, b ∉ (X.env.locals :: X.fs) → b ∉ frs X.stack := fun b hb z => hb (I.stkSub b z)
  refine ⟨⟨I.ok.mod, hkind, I.ok.glob, I.ok.blt, Nat.le_refl _, ?_, hcl.has, fun _ _ h => absurd h (by intro z; cases z), I.ok.hd, I.ok.frames, .inl rfl, ?_, I.bs, Nat.le_trans I.ok.bsz I.sz, ?_, ?_, I.stack, I.stkFree⟩,
    rfl, I.bare, Un.kept hk, ⟨_, hns, ?_⟩, ?_, I.hok.fresh (Nat.le_refl _), fun x c e => I.freeC x c (hcl.sub x c e), ?_, I.hok.kept hk, hN.len⟩
  · intro x y c h1 h2
    exact I.ok.inj x y c (hcl.sub x c h1) (hcl.sub y c h2)
  · intro b hb
    exact ⟨Nat.ne_of_lt (hfo b hb), fun x c e => (hf b hb).2.2.2.2.1 x c (hcl.sub x c e)⟩
  · intro b o e hb
    rcases (hf b hb).2.2.2.1 with q | q
    · exact I.ok.noex b o e q
    · exact absurd (Nat.lt_of_lt_of_le (Heap.lt_size e) (Nat.le_trans I.ok.bsz q)) (Nat.lt_irrefl _)
  · intro b hb
    refine hfs b fun z => ?_
    rcases List.mem_cons.mp z with z | z
    · exact (hf b hb).2.1 z
    · exact (hf b hb).2.2.1 z
  · intro i x v h1 h2 _
    obtain ⟨j, hj, hσ, hv, hnl, hk'⟩ := hN.from' i x v h1 h2
    obtain ⟨m, hn, hl⟩ := I.loc
    obtain ⟨u, r, l⟩ := hl j x v hj hσ hv
    refine ⟨u, r, .inr ⟨hk', ?_⟩⟩
    obtain ⟨c, hc⟩ := hcl.has x hk'
    rcases l with ⟨hloc, _⟩ | ⟨_, c', hc', hcell⟩
    · exact absurd hloc hnl
    · have e := hcl.sub x c hc
      rw [hc'] at e
      cases e
      obtain ⟨o, ho, hd⟩ := hcell
      exact ⟨_, hc, o, hk _ _ ho, hd⟩
  · intro x c e
    obtain ⟨v, o, ho, hd⟩ := I.cell x c (hcl.sub x c e)
    exact ⟨v, o, hk _ _ ho, hd⟩
  · intro p hp
    rw [show (blk X N' scope cl s.heap.objs.size s H fp (X.pn ++ pins)).pn = X.pn ++ pins from rfl, List.append_nil] at hp
    obtain ⟨a1, a2, a3, a4, a5⟩ := I.pin p hp
    refine ⟨hk _ _ a1, a2, Nat.ne_of_lt (Heap.lt_size a1), hfs _ fun z => ?_, a5⟩
    rcases List.mem_cons.mp z with z | z
    · exact a3 z
    · exact a4 z
theorem blk_end {N' : List Str} {scope : Scope} {cl : List (Str × Addr)} {fp : List Addr} {pl : List (Addr × Obj)} {H' : Hp} {s' : Shared} {h'' : Heap} (I : Inv X pins σ H s) (hf : ∀ b ∈ fp, FpOk X pins H b)
    (J : Inv (blk X N' scope cl s.heap.objs.size s H fp (X.pn ++ pins)) pl σ' H' s') (hs : Heap.SameBut s.heap.objs.size s'.heap h'') : Inv X pins σ H' { s' with heap := h'' } := by
  have hne : ∀ b o, s.heap.get? b = some o → b ≠ s.heap.objs.size := fun b o e => Nat.ne_of_lt (Heap.lt_size e)
  have hC : H' s.heap.objs.size = none := J.free
  have ub : Un (frs X.stack) fp H H' s.heap s'.heap := J.base
  have u : Un (frs X.stack) fp H H' s.heap h'' := {
    keep := fun b o e n hb hx => hs.extBut b o (hne b o e) (ub.keep b o e n hb hx)
    slot := fun b o e n hb hx => by
      obtain ⟨sl, q⟩ := ub.slot b o e n hb hx
      exact ⟨sl, hs.extBut b _ (hne b o e) q⟩
    free := ub.free
    there := fun b o e hx => by
      obtain ⟨o', q⟩ := ub.there b o e hx
      exact ⟨o', hs.extBut b _ (hne b o e) q⟩
    tups := ub.tups
    frzs := ub.frzs
    tbls := ub.tbls }
  have hok : HOk X.prog X.w H' h'' := fun a o e => (J.hok a o e).stay (fun b ob hb q => hs.extBut b ob (fun z => by
    rw [z] at hb
    rcases hb with hb | hb
    · rw [← hb, hC] at e; cases e
    · rw [hC] at hb; cases hb) q) (fun _ h => h) (fun _ _ h => h)
  exact I.call' (s' := { s' with heap := h'' }) J.os u hok J.bare fun b hb => by
    obtain ⟨f0, f1, f2, f3, f4, f5⟩ := hf b hb
    exact ⟨f3, f1, f4, f5⟩
end
end L2

namespace L2
open PySem PySem.Spec PyProof.Rows
/-- the tests of a clause -/
def PIfs (X : Cx) (ifs : List Expr) (t : TT) : Prop :=
  ∀ (pins : List (Addr × Obj)) (s : Shared) (σ : St) (H : Hp) (Q : Bool → Hp → Prop), Inv X pins σ H s → t σ H Q →
    wpAny (model X.prog X.w) X.A (forIn ifs true fun c r => if r = true then do let ok ← isTrue c X.env (eval c X.env); pure (ForInStep.yield ok) else pure (ForInStep.yield r)) (TP X pins σ Q) X.xe s
def tNoIf : TT := fun _ H Q => Q true H
theorem pifs_nil {X : Cx} : PIfs X [] tNoIf := fun _ _ _ H _ I h => wpAny_tests_nil ⟨H, I, h⟩
theorem pifs_one {X : Cx} {c : Expr} {t : TT} (h : PT X c t) : PIfs X [c] t := fun pins s σ H Q I hw => wpAny_tests_one (h pins s σ H Q I hw)
/-- the slots that were filled are as they were -/
structure Keep (σa σb : St) : Prop where
  len : σb.length = σa.length
  at' : ∀ (i : Nat) (v : V), σa[i]? = some (some v) → σb[i]? = some (some v)
theorem Keep.refl (σ : St) : Keep σ σ := ⟨rfl, fun _ _ h => h⟩
theorem Keep.set {σa σb : St} {i : Nat} {v : V} (k : Keep σa σb) (h : σa[i]? = some none) : Keep σa (σb.set i (some v)) := by
  refine ⟨by rw [List.length_set]; exact k.len, fun j u e => ?_⟩
  have hj : i ≠ j := by
    rintro rfl
    rw [h] at e
    cases e
  rw [List.getElem?_set_ne hj]
  exact k.at' j u e
def tComp (σf : St → St) (wi : TI) (g : TG) (tt : TT) (te : TE) : TE := fun σ H Q => wi σ H fun J H1 => ∀ D, H1 D = none → ∃ W : Nat → Nat → List V → Hp → Prop, (∃ m, W 0 m [] (upd H1 D (.lst []))) ∧
  ∀ i m ys H, W i m ys H → H D = some (.lst ys) ∧ ys.length < sizeLine ∧
    ((J.stop i H ∧ Q (.ref D) H) ∨ (J.go i H ∧ ∀ x H', J.yld i H x H' → g x (σf σ) H' fun σ2 H2 => Keep (σf σ) σ2 ∧ tt σ2 H2 fun b H3 =>
      if b = true then te σ2 H3 fun y H4 => H4 D = some (.lst ys) ∧ ∃ m', m' < m ∧ W (i + 1) m' (ys ++ [y]) (upd H4 D (.lst (ys ++ [y]))) else ∃ m', m' < m ∧ W (i + 1) m' ys H3))
theorem pe_comp {X : Cx} {elt tg iter : Expr} {ifs : List Expr} {scope : Scope} {pos : Pos} {N' : List Str} {cl : List (Str × Addr)} {wi : TI} {g : TG} {tt : TT} {te : TE} (σf : St → St)
    (hc : X.calm = true) (hkind : scope.kind = .function) (hcell : ∀ y ∈ scope.names, y.2 ≠ .cell) (hnames : ∀ y ∈ scope.names, y.2 = .local → scope.names.lookup y.1 = some .local) (hcl : ClOk X scope cl)
    (hN : ∀ σ : St, σ.length = X.N.length → BlkN X N' scope cl σ (σf σ)) (hi : PI X tg iter wi)
    (hg : ∀ C s₀ H₀ ex pn, PG (blk X N' scope cl C s₀ H₀ ex pn) tg g) (ht : ∀ C s₀ H₀ ex pn, PIfs (blk X N' scope cl C s₀ H₀ ex pn) ifs tt) (he : ∀ C s₀ H₀ ex pn, PE (blk X N' scope cl C s₀ H₀ ex pn) elt te)
    (hs : ∀ x, foldedSetIterable iter X.env x = pure x := by intro _; rfl) : PE X (.ListComp elt [⟨tg, iter, ifs, 0⟩] scope pos) (tComp σf wi g tt te) := by
  intro pins s σ H Q I h
  rw [eval_ListComp]
  refine wpAny_comprehension_free (use := none) rfl hs hcl.run hkind hnames (thn (hi pins s σ H _ I h) fun v s1 h1 => thn h1 fun itv s2 h2 => ?_)
  obtain ⟨it, fp, tn, J, H2, rfl, I2, T, st2, f2, q⟩ := h2
  refine wpAny_newObj_type (wpAny_newFunctionEnv hcell (by intro y hy; simp at hy) (fun h₁ hns₁ hsb₁ => ?_) hkind)
  dsimp only at hns₁ hsb₁ ⊢
  have hfo : ∀ b ∈ fp, b < s2.heap.objs.size := fun b hb => by
    obtain ⟨o, e, _⟩ := T.obj _ _ st2 b hb
    exact Heap.lt_size e
  have hDf : H2 s2.heap.objs.size = none := I2.hok.fresh (Nat.le_refl _)
  obtain ⟨W, ⟨m0, w0⟩, turn⟩ := q s2.heap.objs.size hDf
  have I3 : Inv X pins σ (upd H2 s2.heap.objs.size (.lst [])) { s2 with heap := s2.heap.push { cls := .type "list", data := .seq ([] : List Value).toArray } } := I2.lnew (its := []) (t' := s2.toks) .nil (Nat.zero_le _)
  have f3 : ∀ b ∈ fp, FpOk X pins (upd H2 s2.heap.objs.size (.lst [])) b := fun b hb => ⟨by rw [upd_ne (Nat.ne_of_lt (hfo b hb))]; exact (f2 b hb).1, (f2 b hb).2⟩
  generalize hD : s2.heap.objs.size = D at *
  generalize hs3 : ({ s2 with heap := s2.heap.push { cls := .type "list", data := .seq ([] : List Value).toArray } } : Shared) = s3 at *
  have hh3 : s3.heap = s2.heap.push { cls := .type "list", data := .seq ([] : List Value).toArray } := by rw [← hs3]
  have hsz3 : s2.heap.objs.size < s3.heap.objs.size := by rw [hh3, Heap.size_push]; exact Nat.lt_succ_self _
  have e3 : ∀ h t, ({ s2 with heap := h, toks := t } : Shared) = { s3 with heap := h, toks := t } := fun h t => by rw [← hs3]
  rw [← hh3] at hns₁ hsb₁ ⊢
  have hk3 : ∀ b o, s3.heap.get? b = some o → h₁.get? b = some o := fun b o e => hsb₁.extBut b o (Nat.ne_of_lt (Heap.lt_size e)) (Heap.get?_push_of_some _ e)
  have I4 := blk_start (t' := s3.toks) I3 hkind hcl (hN σ I.len) f3 (fun b hb => Nat.lt_trans (hfo b hb) (hD ▸ hsz3)) (hns := by simpa using hns₁) hk3
  generalize hB : blk X N' scope cl s3.heap.objs.size s3 (upd H2 D (.lst [])) fp (X.pn ++ pins) = B at *
  have hBp : B.prog = X.prog := by rw [← hB]; rfl
  have hBw : B.w = X.w := by rw [← hB]; rfl
  have hBK : B.K = X.K := by rw [← hB]; rfl
  have hBA : B.A = X.A := by rw [← hB]; rfl
  have hBc : B.calm = true := by rw [← hB]; exact hc
  have hBe : B.env = compEnvC scope cl s3.heap.objs.size X.env := by rw [← hB]; rfl
  have hBx : B.xe = fun _ _ => False := by rw [← hB]; rfl
  have hGB : PG B tg g := hB ▸ hg _ _ _ _ _
  have hTB : PIfs B ifs tt := hB ▸ ht _ _ _ _ _
  have hEB : PE B elt te := hB ▸ he _ _ _ _ _
  have stat : ∀ {H' : Hp}, (∀ b ∈ fp, H' b = none) → ∀ b ∈ fp, FpOk B [] H' b := fun {H'} hn b hb => by
    obtain ⟨f0, f1, f2', f3', f4, f5⟩ := f3 b hb
    rw [← hB]
    refine ⟨hn b hb, Nat.ne_of_lt (Nat.lt_trans (hfo b hb) (hD ▸ hsz3)), fun z => ?_, .inl hb, fun x c e => f4 x c (hcl.sub x c e), fun p hp => ?_⟩
    · rcases List.mem_cons.mp (I.stkSub b z) with z | z
      · exact f1 z
      · exact f2' z
    · rw [show (blk X N' scope cl s3.heap.objs.size s3 (upd H2 D (.lst [])) fp (X.pn ++ pins)).pn = X.pn ++ pins from rfl, List.append_nil] at hp
      exact f5 p hp
  have loop : ∀ s4 : Shared, Inv B [] (σf σ) (upd H2 D (.lst [])) s4 → tn 0 s4.heap →
      codeAny (model X.prog X.w) X.A (.compLoop (.ListComp elt [⟨tg, iter, ifs, 0⟩] scope pos) 0 (.ref it) (.ref D) (compEnvC scope cl s3.heap.objs.size X.env)) (compPost (model X.prog X.w) X.A X.xe none (EP X pins σ Q) (.ref D) s3.heap.objs.size) s4 := by
    intro s4 I4 st4
    refine compLoop_gen (I := fun n s' => ∃ i ys H', Inv B [] (σf σ) H' s' ∧ tn i s'.heap ∧ (∀ b ∈ fp, H' b = none) ∧ W i n ys H') ?_ m0 ⟨0, [], _, I4, st4, fun b hb => (f3 b hb).1, w0⟩
    rintro n s5 ⟨i, ys, H5, I5, st5, fr5, w5⟩
    obtain ⟨hD5, hlen5, alt⟩ := turn i n ys H5 w5
    rcases alt with ⟨stop, qn⟩ | ⟨go, step⟩
    · have z := T.done B hBp hBw hBK hBc i [] s5 (σf σ) H5 (fun _ _ => False) I5 (stat fr5) st5 stop
      rw [hBA] at z
      refine thn z fun r s6 ⟨hr, I6⟩ => ?_
      subst hr
      obtain ⟨m6, hn6, _⟩ := I6.loc
      rw [hBe] at hn6
      refine ⟨m6, hn6, fun h' hs' => ?_⟩
      subst hB
      exact ⟨.ref D, H5, blk_end I3 f3 I6 hs', rfl, qn⟩
    · have z := T.item B hBp hBw hBK hBc i [] s5 (σf σ) H5 (fun _ _ => False) I5 (stat fr5) st5 go
      rw [hBA] at z
      refine thn z fun r s6 ⟨u, hr, h6⟩ => ?_
      subst hr
      refine thn h6 fun _ s7 ⟨x, H7, I7, r7, y7, st7, fr7⟩ => ?_
      have I7' := I7.pinned (stat fr7) (T.obj _ _ st7)
      have z8 := hGB _ s7 (σf σ) H7 x u _ I7' r7 (step x H7 y7)
      rw [hBp, hBw, hBA, hBe, hBx] at z8
      refine thn z8 fun _ s8 ⟨σ8, H8, I8, k8, q8⟩ => ?_
      have z9 := hTB _ s8 σ8 H8 _ I8 q8
      rw [hBp, hBw, hBA, hBe, hBx] at z9
      refine thn z9 fun ok s9 ⟨H9, I9, q9⟩ => ?_
      have again : ∀ {ys' : List V} {H' : Hp} {s' : Shared}, Inv B ([] ++ pinsAt fp s7.heap) σ8 H' s' → (∃ m', m' < n ∧ W (i + 1) m' ys' H') → ∃ m, m < n ∧ ∃ i ys H', Inv B [] (σf σ) H' s' ∧ tn i s'.heap ∧ (∀ b ∈ fp, H' b = none) ∧ W i m ys H' := fun {ys' H' s'} J ⟨m', hm, w'⟩ => by
        refine ⟨m', hm, i + 1, ys', H', J.unpinned.weak k8.len.symm k8.at', T.keep _ _ _ st7 fun b hb o e => (J.pin (b, o) (List.mem_append_right _ (List.mem_append_right _ (mem_pinsAt hb e)))).1, fun b hb => ?_, w'⟩
        obtain ⟨o, e, d⟩ := T.obj _ _ st7 b hb
        exact (J.pin (b, o) (List.mem_append_right _ (List.mem_append_right _ (mem_pinsAt hb e)))).2.1
      cases ok with
      | false => exact again I9 q9
      | true =>
        have z10 := hEB _ s9 σ8 H9 _ I9 q9
        rw [hBp, hBw, hBA, hBe, hBx] at z10
        refine thn z10 fun y10 s10 ⟨y, H10, I10, r10, hD10, q10⟩ => ?_
        have z11 := mt_append (X := B) _ s10 σ8 H10 (.ref D) [y] (.ref D) [y10] (fun _ H' => ∃ m', m' < n ∧ W (i + 1) m' (ys ++ [y]) H') I10 rfl (.cons r10 .nil) ⟨D, ys, y, rfl, rfl, hD10, hlen5, q10⟩
        rw [hBp, hBw, hBA, hBx] at z11
        refine thn z11 fun _ s11 ⟨_, H11, I11, _, q11⟩ => again I11 q11
  have st4 : tn 0 ({ s3 with heap := h₁, toks := s3.toks } : Shared).heap := T.keep _ _ _ st2 fun b hb o e => hk3 b o (by rw [hh3]; exact Heap.get?_push_of_some _ e)
  have L4 := loop _ I4 st4
  subst hs3
  exact codeAny_compStart_list L4 (T.self _ 0 _ _ _ st4 L4)
end L2

namespace L2
open PySem PySem.Spec PyProof.Rows
/-! ### large ints: sizes in bits -/
def Bt (n : Nat) (x : Int) : Prop := x.natAbs < 2 ^ n
theorem Bt.bits {n : Nat} {x : Int} (h : Bt n x) : Builtin.Int.intBits x ≤ n := intBits_le_iff.mpr h
theorem Bt.of_bits {n : Nat} {x : Int} (h : Builtin.Int.intBits x ≤ n) : Bt n x := intBits_le_iff.mp h
theorem Bt.mono {m n : Nat} {x : Int} (h : Bt m x) (hn : m ≤ n) : Bt n x := Nat.lt_of_lt_of_le h (Nat.pow_le_pow_right (by decide) hn)
theorem Bt.mul {m n : Nat} {x y : Int} (h : Bt m x) (h' : Bt n y) : Bt (m + n) (x * y) := .of_bits (intBits_mul_le h.bits h'.bits)
theorem Bt.add {m : Nat} {x y : Int} (h : Bt m x) (h' : Bt m y) : Bt (m + 1) (x + y) := .of_bits (by have := intBits_add_le h.bits h'.bits; rwa [Nat.max_self] at this)
theorem Bt.le {m : Nat} {x y : Int} (h : Bt m y) (h0 : 0 ≤ x) (hy : x ≤ y) : Bt m x := by
  unfold Bt at *
  omega
theorem Bt.div {m : Nat} {x y : Int} (h : Bt m x) (h0 : 0 ≤ x) : Bt m (x / y) := by
  unfold Bt at *
  have := Int.natAbs_ediv_le_natAbs x y
  omega
theorem log_of {n : Nat} {x : Int} (h : Bt n x) (hp : 0 < x) (hn : n ≤ 9000) : x.natAbs.log2 < 9000 := by
  have : x.natAbs.log2 < n := (Nat.log2_lt (by omega)).mpr h
  omega
def CMulB (i j : Int) : Prop := Bt 1000000 i ∧ Bt 1000000 j
def CDivB (_i j : Int) : Prop := 0 < j ∧ Bt 9000 j
def CPowB (i j : Int) : Prop := 0 ≤ j ∧ j ≤ 1000 ∧ Bt 1000 i
section
variable {X : Cx}
theorem op_mulB : OpR X (binaryOp .Mult) (rI CMulB fun i j => .int (i * j)) := opI fun _ _ _ _ _ _ _ hc q => mul_int q (.of_bits (Nat.le_trans hc.1.bits (by decide)) (Nat.le_trans hc.2.bits (by decide)))
theorem op_fdivB : OpR X (binaryOp .FloorDiv) (rI CDivB fun i j => .int (i / j)) := opI fun i j _ _ _ _ _ hc q => by
  have h1 : (0 : Int) < j := hc.1
  rw [← Int.fdiv_eq_ediv_of_nonneg i (Int.le_of_lt h1)] at q
  exact floordiv_int (by omega) q (.inl (PyProof.noPylong_of_log2 (log_of hc.2 h1 (Nat.le_refl _))))
theorem op_powB : OpR X (binaryOp .Pow) (rI CPowB fun i j => .int (i ^ j.toNat)) := opI fun i j _ _ _ _ _ hc q => by
  obtain ⟨h0, h1, h2⟩ := hc
  refine PyProof.Rows.pow_int h0 ?_ q
  have b := h2.bits
  have e : (2 : Int) ^ 27 = 134217728 := by decide
  have := Int.mul_le_mul (show (Builtin.Int.intBits i : Int) ≤ 1000 by omega) h1 h0 (by decide)
  omega
/-! ### tuples of ints -/
theorem deq_ints {K : PySem.W.Frag} {H : Hp} {n : Nat} (ns ms : List Int) : ∀ (j : Nat) x y, (ns.map V.int)[j]? = some x → (ms.map V.int)[j]? = some y → DEq K H n x y (ns[j]? == ms[j]?) := by
  intro j x y h1 h2
  rw [List.getElem?_map] at h1 h2
  cases e1 : ns[j]? with
  | none => rw [e1] at h1; cases h1
  | some a =>
    cases e2 : ms[j]? with
    | none => rw [e2] at h2; cases h2
    | some b =>
      rw [e1] at h1
      rw [e2] at h2
      cases h1
      cases h2
      have : (some a == some b) = eqV (V.int a) (V.int b) := by
        show (a == b) = (a == b)
        rfl
      rw [this]
      exact DEq.flat rfl rfl
theorem all_ints : ∀ (ns ms : List Int), ((List.range (min ns.length ms.length)).all (fun j => ns[j]? == ms[j]?) && ns.length == ms.length) = decide (ns = ms) := by
  intro ns ms
  rw [Bool.eq_iff_iff]
  simp only [Bool.and_eq_true, List.all_eq_true, List.mem_range, beq_iff_eq, decide_eq_true_eq]
  constructor
  · rintro ⟨h, hl⟩
    refine List.ext_getElem? fun i => ?_
    by_cases hi : i < ns.length
    · exact h i (by omega)
    · rw [List.getElem?_eq_none (by omega), List.getElem?_eq_none (by omega)]
  · rintro rfl
    exact ⟨fun _ _ => rfl, rfl⟩
def rEqI (K : PySem.W.Frag) : R2 := fun x y H Q => ∃ a b, ∃ ns ms : List Int, x = .ref a ∧ y = .ref b ∧ SqT K H a (ns.map V.int) ∧ SqT K H b (ms.map V.int) ∧ Q (.bl (decide (ns = ms))) H
def rNeI (K : PySem.W.Frag) : R2 := fun x y H Q => ∃ a b, ∃ ns ms : List Int, x = .ref a ∧ y = .ref b ∧ SqT K H a (ns.map V.int) ∧ SqT K H b (ms.map V.int) ∧ Q (.bl (!decide (ns = ms))) H
theorem op_eqI (hu : X.A.units + 64 < cLine) : OpR X (compareOp .Eq) (rEqI X.K) := by
  intro pins s σ H x y v u Q I rx ry h
  obtain ⟨a, b, ns, ms, rfl, rfl, hx, hy, q⟩ := h
  refine op_eqT hu pins s σ H _ _ v u Q I rx ry ⟨a, b, _, _, fun j => ns[j]? == ms[j]?, rfl, rfl, hx, hy, deq_ints ns ms, ?_⟩
  rw [List.length_map, List.length_map, all_ints]
  exact q
end
end L2

namespace L2
open PySem PySem.Spec PyProof.Rows
section
variable {X : Cx}
/-- sum of a list of ints -/
theorem call_sum (hc : X.calm = true) : CallR X (.builtin "sum") (fun xs H Q => ∃ p, ∃ ns : List Int, xs = [.ref p] ∧ SqL X.K H p (ns.map V.int) ∧ Q (.int ns.sum) H) := by
  intro pins s σ H xs us Q I r h
  obtain ⟨p, ns, rfl, hq, q⟩ := h
  obtain ⟨u, rfl, rx⟩ := vals1 r
  cases rx
  obtain ⟨its, r', pl, hz⟩ := I.list hq
  have hi := intsAre_of r'
  obtain ⟨ys, e⟩ := (hi.allInts).items
  have hl : s.heap.IsList p (intItems ys) := e ▸ pl.isList
  refine sum_intListG (I.ok.hd hc) hl fun h' tk t' hk => ?_
  refine ⟨.int ns.sum, H, I.kept hk, ⟨t', ?_⟩, q⟩
  have e1 : numsOf its = ns := hi.numsOf
  have e2 : numsOf (intItems ys).toList = numsOf its := by rw [← e]
  rw [nums_intItems, e1] at e2
  rw [preSum_eq, List.take_of_length_le (by simp), e2]
/-- an item of the tuple that a name holds -/
def tIt (K : PySem.W.Frag) (i k : Nat) : TE := fun σ H Q => ∃ p xs v, σ[i]? = some (some (.ref p)) ∧ SqT K H p xs ∧ xs[k]? = some v ∧ Q v H
theorem pit (i k : Nat) {x : Str} {p q : Pos} {j : Nat} (hN : X.N[i]? = some x := by rfl) (hv : Vis X.env.scope x := by first | exact Or.inl rfl | exact Or.inr (Or.inl rfl) | exact Or.inr (Or.inr rfl)) (hd : (x == ("__debug__" : Str)) = false := by decide)
    (hcd : (x == ("__classdict__" : Str)) = false := by decide) {pos : Pos} : PE X (.Subscript (.Name x p) (.Constant (.int (k : Int)) j q) pos) (tIt X.K i k) := by
  intro pins s σ H Q I h
  obtain ⟨a, xs, v, e, hs, hk, q⟩ := h
  exact pe_ix ix_tup (pe_var hN hv hd hcd) pe_int (fun _ _ => rfl) pins s σ H Q I ⟨_, e, a, xs, (k : Int), v, rfl, rfl, hs, atI_nat hk, q⟩
/-- a def of the text that may be called by its name -/
structure Cal (P : Program) (w : World) (K : PySem.W.Frag) (mg : Str → Option Value) (base : Heap) (CX : CXT) (k : Nat) (x : Str) (ps : List Str) (sp : Sp) : Prop where
  ex : ∃ (f : Addr) (fd : FuncData), mg x = some (.ref f) ∧ PySem.W.keepIn K (.ref f) = true ∧ Binds K fd ps [] ∧ FnOk P w K mg base CX k f fd ps sp
theorem pe_cal {CX : CXT} {k : Nat} {x : Str} {ps : List Str} {sp : Sp} {E : XK} {e : Expr} {es : List Expr} {t : TA} {p pos : Pos} (C : Cal X.prog X.w X.K X.mg X.base CX k x ps sp) (hr : Room k X.A) (hg : Gl X x) (hx : Passes CX X E)
    (ha : PA X (e :: es) t) (hdb : (x == ("__debug__" : Str)) = false := by decide) (he : starEach (e :: es) X.env = (false, eval e X.env) :: starEach es X.env := by rfl) (hpl : (backTo pos (starEach es X.env)).any (·.1) = false := by rfl) :
    PE X (.Call (.Name x p) (e :: es) [] pos) (tCall sp [] E t) := by
  obtain ⟨f, fd, hm, hk, hb, F⟩ := C.ex
  exact pe_call F hr hg hm hk hb .nil hx ha hdb he hpl
theorem Cal.mono {P : Program} {w : World} {K : PySem.W.Frag} {mg : Str → Option Value} {base : Heap} {CX : CXT} {j k : Nat} {x : Str} {ps : List Str} {sp : Sp} (C : Cal P w K mg base CX j x ps sp) (h : j ≤ k) : Cal P w K mg base CX k x ps sp := by
  obtain ⟨f, fd, hm, hk, hb, F⟩ := C.ex
  exact ⟨f, fd, hm, hk, hb, F.mono h⟩
end
theorem Same.tup {K : PySem.W.Frag} {H H' : Hp} {a : Addr} {xs : List V} (e : Same H H') (h : SqT K H a xs) : SqT K H' a xs := by
  rcases h with (h | ⟨o, h⟩) | h
  · exact .inl (.inl (e _ _ h))
  · exact .inl (.inr ⟨o, e _ _ h⟩)
  · exact .inr h
theorem Same.upd {H : Hp} {a : Addr} {o : HO} (h : H a = none) : Same H (upd H a o) := fun b u e => by
  rw [upd_ne (ne_of_none e h)]
  exact e
/-- a new tuple of ints comes back, all else as it was -/
def RetT (H : Hp) (Q : VK) (ns : List Int) : Prop := ∀ p H', Same H H' → H' p = some (.tup (ns.map V.int)) → Q (.ref p) H'
end L2

namespace L2
open PySem PySem.Spec PyProof.Rows PySem.W
/-- an own class of errors, as the top has made it -/
structure ExK (K : Frag) (C : Addr) : Prop where
  ga : findIn K (.ref C) "__getattribute__" = some (some (.builtin "BaseException.__getattribute__"))
  gt : findIn K (.ref C) "__getattr__" = some none
  cl : findIn K (.ref C) "__class__" = some (some (.builtin "object.__class__"))
  sb : subIn K (.ref C) (.type "BaseException") = some true
  so : subIn K (.ref C) (.type "object") = some true
  ci : (clsIn K C).isSome = true
/-- an object of the class at C stands at a -/
structure ExAt (h : Heap) (a : Addr) (o : Obj) (C : Addr) : Prop where
  at_ : h.get? a = some o
  cls : o.cls = .ref C
section
variable {prog : Program} {w : World} {A : Around} {E : Value → Shared → Prop} {h : Heap} {g : Array GenState} {d : Drawn} {t : Nat} {os : OsState} {a C : Addr} {o : Obj} {K : Frag}
end
/-- an object of an own class of errors stands at a: what is tracked of it -/
def excO (a C : Addr) : HO := .ext fun h => ∃ o, ExAt h a o C
section
variable {X : Cx}
end
end L2

namespace L2
open PySem PySem.Spec PyProof.Rows PySem.W
/-! ### an error on its way, with its own dict -/
/-- an error at e with a traceback, its class, its dict -/
def TrD (h base : Heap) (e : Addr) (cls : Value) (dd : Option Addr) (fl : Value) : Prop :=
  ∃ (ob tb : Obj) (us ts : Array Value) (T : Addr), (h.get? e = some ob ∧ ob.data = .fields us ∧ ob.cls = cls ∧ ob.dict = dd) ∧ us[1]? = some (.ref T) ∧ (base.get? T = none ∧ T ≠ e) ∧ h.get? T = some tb ∧ tb.data = .fields ts ∧ ts[3]? = some fl
structure FlyD (base : Heap) (l : List Env) (e : Addr) (cls : Value) (dd : Option Addr) (fl : Value) (h : Heap) : Prop where
  st : base.StaysIn h
  no : base.get? e = none
  fr : h.FunFrames base l
  tr : TrD h base e cls dd fl
section
variable {M : Model} {A : Around} {E : Value → Shared → Prop} {s : Shared} {base : Heap} {env : Env} {outer : List Env} {L e : Addr} {Q : Unit → Shared → Prop} {cls : Value} {dd : Option Addr}
end
end L2

namespace L2
open PySem PySem.Spec PyProof.Rows PySem.W
/-- an error is under way, with its own dict: what is known behind a call that ended so (s, H: ahead of the call) -/
structure Flx (P : Program) (w : World) (outer : List Env) (H : Hp) (s : Shared) (H' : Hp) (ea : Addr) (cls : Value) (dd : Option Addr) (s' : Shared) : Prop where
  os : s'.os = s.os
  bare : AllBare s'.gens
  un : Un (frs outer) [] H H' s.heap s'.heap
  fl : ∃ B : Heap, HOk P w H' B ∧ FlyD B outer ea cls dd .none s'.heap ∧ (∀ b o, s.heap.get? b = some o → H b = none → b ∉ frs outer → B.get? b = some o) ∧ (∀ b o, s.heap.get? b = some o → b ∉ frs outer → ∃ o', B.get? b = some o')
def CXg (P : Program) (w : World) : CXT := fun outer H s E e s' => ∃ (ea C : Addr) (dd : Option Addr) (H' : Hp), e = .ref ea ∧ Flx P w outer H s H' ea (.ref C) dd s' ∧ E (.ref C) dd H'
/-- a def's body running: it has a frame of its own and nothing that was made ahead of it turns -/
structure OwnF (X : Cx) : Prop where
  stk : X.stack = X.env :: X.outer
  fr : X.env.frame = some X.env.locals
  ex : X.ex = []
section
variable {X : Cx} {pins : List (Addr × Obj)} {σ : St} {H H' : Hp} {s s' : Shared}
end
/-- the body of a def that may raise -/
abbrev cxF (P : Program) (w : World) (K : Frag) (mg : Str → Option Value) (base : Heap) (N : List Str) (qual : Str) (scope : Scope) (f : Addr) (cd : Value) (A : Around) (outer : List Env) (s : Shared) (H : Hp) (E : XK) : Cx := cxOf (CXg P w) P w K mg base N qual scope f cd A outer s H E
section
variable {P : Program} {w : World} {K : Frag} {mg : Str → Option Value} {base : Heap} {N : List Str} {qual : Str} {scope : Scope} {f : Addr} {cd : Value} {A : Around} {outer : List Env} {s : Shared} {H : Hp} {E : XK}
/-- an error that stands there, untracked, leaves -/
def XeOk (X : Cx) (E : XK) : Prop := ∀ (pins : List (Addr × Obj)) (σ : St) (H : Hp) (s : Shared) (ea C : Addr) (ob : Obj) (us : Array Value), Inv X pins σ H s → H ea = none → X.s₀.heap.get? ea = none → s.heap.get? ea = some ob → ob.cls = .ref C → ob.data = .fields us → us[1]? = some .none → E (.ref C) ob.dict H → X.xe (.ref ea) s
end
end L2

namespace L2
open PySem PySem.Spec PyProof.Rows PySem.W
/-- the class that an except names -/
structure CtK (K : Frag) (D : Addr) : Prop where
  ty : typeIn K (.ref D) = some (.type "type")
  ci : (clsIn K D).isSome = true
  sb : subIn K (.ref D) (.type "BaseException") = some true
/-! ### raise -/
abbrev bmV : List Value := [.type "ValueError", .type "Exception", .type "BaseException", .type "object"]
structure ClsObj (h : Heap) (C : Addr) (bmB : List Value) (newId : String) : Prop where
  ex : ∃ (nm q : Str) (N : Addr) (bs bm : List Value) (hdct : Bool) (sn : List Str) (sub : List Value) (ab : Bool) (col : Option Bool) (dd : Option Addr) (k0 k1 k2 k3 k5 : Option Value) (mN : Str → Option Value),
    h.get? C = some (excClassObj nm q C N bs bm hdct sn sub ab col dd k0 k1 k2 k3 k5 newId) ∧ h.Ns N mN ∧ mN "__init__" = none ∧ OwnTail h bmB bm
/-- an error of the class at C that was caught, its dict -/
def excD (a C : Addr) (dd : Option Addr) : HO := .ext fun h => ∃ o, ExAt h a o C ∧ o.dict = dd ∧ ∃ us, o.data = .fields us
def tRaise (C : Addr) (E : XK) (t : TA) : TS := fun _ σ H => t σ H fun vs H1 => vs.length ≤ sizeLine ∧ E (.ref C) none H1
section
variable {X : Cx}
end
/-- within an except suite, from which nothing is raised -/
abbrev Cx.within (X : Cx) (v : Value) : Cx := { X with A := X.A.mark (some v), calm := false, xe := fun _ _ => False }
/-- within a try: what is wanted of an error, and pins that every state bears -/
abbrev Cx.trying (X : Cx) (pins : List (Addr × Obj)) (E : Value → Shared → Prop) : Cx := { X with pn := X.pn ++ pins, xe := E }
section
variable {X : Cx} {pins : List (Addr × Obj)} {σ : St} {H H' : Hp} {s s' : Shared}
/-- an error of the body is caught under the name n and kept under the name y (slot j) -/
def tTry (K : Frag) (N j : Nat) (Dc : Addr) (tb : XK → TS) : TS := fun D σ H => tb (fun cls dd H' => ∃ C, cls = .ref C ∧ ExK K C ∧ subIn K (.ref C) (.ref Dc) = some true ∧ ∀ a, H' a = none → D.nx ((List.replicate N none).set j (some (.ref a))) (upd H' a (excD a C dd))) D σ H
end
end L2

namespace L2
open PySem PySem.Spec PyProof.Rows PySem.W
/-! ### an own class of errors with an __init__ of its own -/
/-- the class at C stands under the one at P, which stands under ValueError; its __init__ is the def at f -/
def xiIn (K : Frag) (C P f : Addr) : Bool := match K.lookup C with
  | some ⟨.type "type", _, .cls cd, sl⟩ => (match cd.mro, sl.toList with
    | .ref C' :: .ref P' :: bm, [_, _, _, _, some (.builtin n), _] => C' == C && P' == P && n == "ValueError.__new__" && !cd.hasDel && cd.hasDict && tailIn K bmV (.ref P' :: bm) && nsOkIn K cd.ns && nsIn K cd.ns "__init__" == some (some (.ref f)) && bm == bmV
    | _, _ => false)
  | _ => false
structure ClsI (h : Heap) (C P f : Addr) : Prop where
  ex : ∃ (nm q : Str) (N : Addr) (bs : List Value) (sn : List Str) (sub : List Value) (ab : Bool) (col : Option Bool) (dd : Option Addr) (k0 k1 k2 k3 k5 : Option Value) (mN : Str → Option Value),
    h.get? C = some (excClassObj nm q C N bs (.ref P :: bmV) true sn sub ab col dd k0 k1 k2 k3 k5 "ValueError.__new__") ∧ h.Ns N mN ∧ mN "__init__" = some (.ref f) ∧ OwnTail h bmV (.ref P :: bmV)
section
variable {prog : Program} {w : World} {A : Around} {E : Value → Shared → Prop} {h : Heap} {g : Array GenState} {d : Drawn} {t : Nat} {os : OsState} {K : Frag} {C P f : Addr}
/-- what stands there when __init__ is called -/
abbrev excNew (h : Heap) (C : Addr) (rest : List Value) : Heap := (h.push { cls := .type "tuple", data := .seq rest.toArray }).push { cls := .ref C, data := .fields #[.ref h.objs.size, .none, .none, .none, .bool false, .none] }
end
end L2

namespace L2
open PySem PySem.Spec PyProof.Rows PySem.W
/-- an error that is being made, or was made and is not raised yet: its class, its dict -/
def exN (a C : Addr) (dd : Option Addr) : HO := .ext fun h => ∃ o t, (h.get? a = some o ∧ o.cls = .ref C ∧ o.dict = dd) ∧ o.data = .fields #[t, .none, .none, .none, .bool false, .none]
/-- what is no more tracked -/
def rem (H : Hp) (a : Addr) : Hp := fun b => if b = a then none else H b
section
variable {X : Cx} {pins : List (Addr × Obj)} {σ : St} {H : Hp} {s : Shared}
end
/-- an own class of errors with an __init__, as the top made it -/
structure ExI (K : Frag) (C P f : Addr) : Prop where
  xi : xiIn K C P f = true
  fn : typeIn K (.ref f) = some (.type "function")
  kp : keepIn K (.ref C) = true
  k : ExK K C
/-- raise C(..): the error is made, __init__ runs, it leaves -/
def tRaiseI (C : Addr) (sp : Sp) (E : XK) (t : TA) : TS := fun _ σ H => t σ H fun vs H1 => vs.length ≤ sizeLine ∧ ∀ e, H1 e = none →
  sp (.ref e :: vs) (upd H1 e (exN e C none)) (fun v H2 => v = .non ∧ ∃ dd, H2 e = some (exN e C dd) ∧ E (.ref C) dd (rem H2 e)) E0
section
variable {X : Cx}
end
end L2

namespace L2
open PySem PySem.Spec PyProof.Rows PySem.W PySem.Builtin PySem.Builtin.ObjectAttr
section
variable {prog : Program} {w : World} {A : Around} {E : Value → Shared → Prop} {h : Heap} {g : Array GenState} {d : Drawn} {t : Nat} {os : OsState} {K : Frag} {C P f a : Addr} {o : Obj} {name : Str} {v : Value}
/-! ### e.name -/
end
/-! ### in the layer -/
/-- what the top made of a class of errors with fields: no attribute of the class has a field's name -/
structure ExF (K : Frag) (C P f : Addr) (x : Str) : Prop where
  i : ExI K C P f
  sa : findIn K (.ref C) "__setattr__" = some (some (.builtin "object.__setattr__"))
  nn : findIn K (.ref C) x = some none
/-- the dict of an error -/
def xdE (a : Addr) (fs : List (Str × V)) : HO := .ext fun h => ∃ mA, h.Ns1 a mA ∧ (∀ g, RelO (fs.lookup g) (mA g)) ∧ Within mA (fs.map (·.1))
section
variable {X : Cx} {pins : List (Addr × Obj)} {σ : St} {H : Hp} {s : Shared} {o e value : Expr} {x : Str} {pos pos' : Pos} {ta tv : TE} {C P f : Addr}
/-- e.x = value, the first one -/
def sExN (K : Frag) (C P f : Addr) (ta tv : TE) (x : Str) : TS := fun D σ H => tv σ H fun y H1 => ta σ H1 fun z H2 => ∃ a, z = .ref a ∧ H2 a = some (exN a C none) ∧ ExF K C P f x ∧
  ∀ dx, H2 dx = none → dx ≠ a → D.nx σ (upd (upd H2 a (exN a C (some dx))) dx (xdE dx [(x, y)]))
end
end L2

namespace L2
open PySem PySem.Spec PyProof.Rows PySem.W PySem.Builtin PySem.Builtin.ObjectAttr
section
variable {prog : Program} {w : World} {A : Around} {E : Value → Shared → Prop} {h : Heap} {g : Array GenState} {d : Drawn} {t : Nat} {os : OsState} {K : Frag} {C P f a : Addr} {o : Obj} {v : Value}
end
/-- the class whose __init__ is called by its name -/
structure BaseI (K : Frag) (P : Addr) : Prop where
  rd : readsIn K P (.type "type") = true
  fc : findCls K (.ref P) (.type "type") "__init__" = some (.val (.builtin "ValueError.__init__"))
  ga : specialIn K (.ref P) "__getattribute__" = some (some (.builtin "type.__getattribute__"))
section
variable {X : Cx} {C P f : Addr} {x : Str} {p apos pos : Pos} {e₁ e₂ : Expr} {t : TA}
/-- Base.__init__(self, text) -/
def tBInit (K : Frag) (P : Addr) (t : TA) : TE := fun σ H Q => t σ H fun vs H1 => ∃ a C dd f txt, vs = [.ref a, .str txt] ∧ H1 a = some (exN a C dd) ∧ ExI K C P f ∧ Q .non H1
/-! ### e.x of an error that was caught -/
def tExF (K : Frag) (ta : TE) (x : Str) : TE := fun σ H Q => ta σ H fun z H1 => ∃ a C P f dx fs v, z = .ref a ∧ H1 a = some (excD a C (some dx)) ∧ H1 dx = some (xdE dx fs) ∧ ExF K C P f x ∧ fs.lookup x = some v ∧ Q v H1
end
end L2

namespace L2
open PySem PySem.Spec PyProof.Rows PySem.W
/-! ### f-strings -/
/-- what stands in an f-string for a value -/
def FmtV : V → Str → Prop
  | .int i, x => i.natAbs.log2 < 1920 ∧ x = (toString i : String)
  | .str y, x => y.length ≤ sizeLine ∧ x = y
  | .non, x => x = "None"
  | _, _ => False
def tFmt (ta : TE) : TE := fun σ H Q => ta σ H fun v H1 => ∃ x, FmtV v x ∧ Q (.str x) H1
abbrev TJ := Str → St → Hp → (Str → Hp → Prop) → Prop
/-- the parts of an f-string, behind what was joined so far -/
def PJ (X : Cx) (es : List Expr) (t : TJ) : Prop :=
  ∀ (acc : Str) (pins : List (Addr × Obj)) (s : Shared) (σ : St) (H : Hp) (Q : Str → Hp → Prop), Inv X pins σ H s → t acc σ H Q → wpAny (model X.prog X.w) X.A (joinParts acc (evalEach es X.env)) (EP X pins σ fun v H' => ∃ x, v = .str x ∧ Q x H') X.xe s
def jNil : TJ := fun acc _ H Q => acc.length ≤ sizeLine ∧ Q acc H
def jCons (te : TE) (tr : TJ) : TJ := fun acc σ H Q => te σ H fun v H1 => ∃ x, v = .str x ∧ (acc ++ x).length ≤ sizeLine ∧ tr (acc ++ x) σ H1 Q
def tJoin (t : TJ) : TE := fun σ H Q => t Str.empty σ H fun x H' => Q (.str x) H'
section
variable {X : Cx} {value e e' : Expr} {es : List Expr} {ta te : TE} {tr t : TJ} {pos : Pos}
end
end L2

namespace L2
open PySem PySem.Spec PyProof.Rows PySem.W
/-! ### over a text, sign by sign -/
def Its (x : Str) : It := ⟨fun i _ => ∃ c, x.cps[i]? = some c, fun i H v H' => H' = H ∧ ∃ c, x.cps[i]? = some c ∧ v = .str ⟨#[c]⟩, fun i _ => x.cps[i]? = none⟩
theorem turn_str {P : Program} {w : World} {K : Frag} {tg : Expr} (x : Str) (t : Tok) (it : Addr) (b : Bool) :
    Turn P w K tg (Its x) [it] it (fun i h => h.IsStrIter it (if b then "str_ascii_iterator" else "str_iterator") x t i) where
  mem := by simp
  obj := fun i h st a ha => by
    have e : a = it := by simpa using ha
    subst e
    obtain ⟨o, e, c, d⟩ := st
    exact ⟨o, e, fun v z => by rw [d] at z; cases z⟩
  keep := fun i h h' ⟨o, e, r⟩ k => ⟨o, k it (by simp) o e, r⟩
  item := by
    intro X hP hw hK hc i pins s σ H E I hf st hg
    subst hP hw hK
    obtain ⟨c, hx⟩ := hg
    obtain ⟨f0, f1, f2, f3, f4, f5⟩ := hf it (by simp)
    have go : ∀ h', h'.IsStrIter it (if b then "str_ascii_iterator" else "str_iterator") x t (i + 1) → Heap.SameBut it s.heap h' →
        ∃ u, (some (Value.str ⟨#[c]⟩ s.toks)) = some u ∧ wpAny (model X.prog X.w) X.A (letOwnedTupleGo tg (.ref it) u) (fun _ s2 => ∃ v H', Inv X pins σ H' s2 ∧ RelV v u ∧ (Its x).yld i H v H' ∧ s2.heap.IsStrIter it (if b then "str_ascii_iterator" else "str_iterator") x t (i + 1) ∧ ∀ b ∈ [it], H' b = none) E { s with heap := h', toks := s.toks + 1 } := by
      intro h' st' sb
      have I1 : Inv X pins σ H { s with heap := h', toks := s.toks + 1 } := I.turned (t' := s.toks + 1) (fun b o hb e => (sb.2 b hb).trans e) f0 f1 f3 f4 f5
      obtain ⟨o, e, cc, d⟩ := id st'
      exact ⟨_, rfl, go_of (s := { s with heap := h', toks := s.toks + 1 }) e cc d (by cases b <;> decide) ⟨.str ⟨#[c]⟩, H, I1, ⟨_, rfl⟩, ⟨rfl, c, hx, rfl⟩, st', fun b hb => (hf b hb).1⟩⟩
    cases b with
    | true => exact wpAny_pyNext_ascii_item st hx go
    | false => exact wpAny_pyNext_wide_item st hx go
  done := by
    intro X hP hw hK hc i pins s σ H E I hf st hg
    subst hP hw hK
    obtain ⟨f0, f1, f2, f3, f4, f5⟩ := hf it (by simp)
    cases b with
    | true => exact wpAny_pyNext_ascii_end (I.ok.hd hc) st hg fun h' eb => ⟨rfl, I.turned (t' := s.toks) (fun b o hb e => eb b o hb e) f0 f1 f3 f4 f5⟩
    | false => exact wpAny_pyNext_wide_end (I.ok.hd hc) st hg fun h' eb => ⟨rfl, I.turned (t' := s.toks) (fun b o hb e => eb b o hb e) f0 f1 f3 f4 f5⟩
  self := fun _ _ _ _ _ st h => by
    cases b with
    | true => exact wpAny_pyIter_striter_ascii st h
    | false => exact wpAny_pyIter_striter_wide st h
def iStr (tl : TE) : TI := fun σ H R => tl σ H fun v H1 => ∃ x, v = .str x ∧ R (Its x) H1
section
variable {X : Cx}
theorem pi_str {tg l : Expr} {tl : TE} (hl : PE X l tl) : PI X tg l (iStr tl) := by
  intro pins s σ H R I h
  refine thn (hl pins s σ H _ I h) fun v s1 ⟨y, H1, I1, r1, x, ey, q⟩ => ?_
  subst ey
  obtain ⟨t, rfl⟩ := r1
  have fin : ∀ b : Bool, PIE X pins σ tg R (.ref s1.heap.objs.size) { s1 with heap := s1.heap.push { cls := .type (if b then "str_ascii_iterator" else "str_iterator"), data := .fields #[.str x t, .int 0 0] } } := by
    intro b
    refine ⟨s1.heap.objs.size, [s1.heap.objs.size], _, _, H1, rfl, I1.kept (t' := s1.toks) fun b o e => Heap.get?_push_of_some _ e, turn_str x t _ b, ⟨_, Heap.get?_push_size _ rfl, rfl, rfl⟩, fun b hb => ?_, q⟩
    have e : b = s1.heap.objs.size := by simpa using hb
    subst e
    exact I1.fpOk (Nat.le_refl _) (I1.hok.fresh (Nat.le_refl _))
  cases ha : x.cps.all (· < 128) with
  | true => exact wpAny_pyIter_ascii ha (fin true)
  | false => exact wpAny_pyIter_wide ha (fin false)
end
/-! ### methods of texts -/
def rPart : V → List V → Hp → VK → Prop := fun z vs H Q => ∃ x y, z = .str x ∧ vs = [.str y] ∧ (y.length == 0) = false ∧ x.length ≤ sizeLine ∧ ∀ p, H p = none → Q (.ref p) (upd H p (.tup [.str (Txt.partition x y).1, .str (Txt.partition x y).2.1, .str (Txt.partition x y).2.2]))
def rSplit : V → List V → Hp → VK → Prop := fun z vs H Q => ∃ x y, z = .str x ∧ vs = [.str y] ∧ (y.length == 0) = false ∧ x.length + 2 ≤ sizeLine ∧ ∀ p, H p = none → Q (.ref p) (upd H p (.lst ((Txt.split x y).map V.str)))
section
variable {X : Cx}
end
end L2
namespace L2
open PySem PySem.Spec PyProof.Rows PySem.W
section
variable {X : Cx}
/-! ### int(text), any and all of bools, text * number -/
/-! ### text * number, text[a:b] -/
/-! ### a list against the empty one -/
theorem op_eqE (hu : X.A.units + 64 < cLine) : OpR X (compareOp .Eq) (fun x y H Q => ∃ a b xs, x = .ref a ∧ y = .ref b ∧ SqL X.K H a xs ∧ SqL X.K H b [] ∧ Q (.bl xs.isEmpty) H) := by
  intro pins s σ H x y v u Q I rx ry h
  obtain ⟨a, b, xs, rfl, rfl, ha, hb, q⟩ := h
  cases rx
  cases ry
  obtain ⟨its, r, p, _⟩ := I.list ha
  obtain ⟨its', r', p', _⟩ := I.list hb
  cases r'
  cases r with
  | nil => exact SeqAt.RcAt.lists (A := X.A) (e := fun _ => true) p.isList p'.isList rfl (by omega) (fun j h1 => absurd h1 (by simp)) X.prog X.w X.xe _ ⟨.bl _, H, I, rfl, q⟩
  | cons r t => exact SeqAt.RcAt.lists_lengths (A := X.A) p.isList p'.isList rfl (by omega) X.prog X.w X.xe _ ⟨.bl _, H, I, rfl, q⟩
theorem op_neE (hu : X.A.units + 64 < cLine) : OpR X (compareOp .NotEq) (fun x y H Q => ∃ a b xs, x = .ref a ∧ y = .ref b ∧ SqL X.K H a xs ∧ SqL X.K H b [] ∧ Q (.bl (!xs.isEmpty)) H) := by
  intro pins s σ H x y v u Q I rx ry h
  obtain ⟨a, b, xs, rfl, rfl, ha, hb, q⟩ := h
  cases rx
  cases ry
  obtain ⟨its, r, p, _⟩ := I.list ha
  obtain ⟨its', r', p', _⟩ := I.list hb
  cases r'
  cases r with
  | nil => exact SeqAt.RcNeAt.lists (A := X.A) (e := fun _ => true) p.isList p'.isList rfl (by omega) (fun j h1 => absurd h1 (by simp)) X.prog X.w X.xe _ ⟨.bl _, H, I, rfl, q⟩
  | cons r t => exact SeqAt.RcNeAt.lists_lengths (A := X.A) p.isList p'.isList rfl (by omega) X.prog X.w X.xe _ ⟨.bl _, H, I, rfl, q⟩
end
end L2

/-! texts of figures, and of amounts, as lists of codes -/
namespace TM
open PySem PySem.NumText
/-- the figures of a number -/
def dg (n : Nat) : List Nat := (Nat.toDigits 10 n).map Char.toNat
/-- figures without a nought ahead of others -/
structure Fig (cs : List Nat) : Prop where
  ne : cs ≠ []
  len : cs.length ≤ 60
  all : AllDigits cs
  no : cs.head? = some 48 → cs.length = 1
/-- the text L writes the amount t / b -/
def Reads (L : List Nat) (t b : Nat) : Prop :=
  (Fig L ∧ t = digitsVal L ∧ b = 1) ∨ ∃ p q, L = p ++ 47 :: q ∧ Fig p ∧ Fig q ∧ t = digitsVal p ∧ b = digitsVal q ∧ 2 ≤ b ∧ Nat.gcd t b = 1
def showL (t b : Nat) : List Nat := if b = 1 then dg t else dg t ++ 47 :: dg b
end TM
namespace TM
open PySem PySem.StrLaws PySem.Builtin PySem.Builtin.Str
abbrev cps (x : Str) : List Nat := x.cps.toList
abbrev sl : Str := ⟨#[47]⟩
theorem cps_append' (x y : Str) : cps (x ++ y) = cps x ++ cps y := by
  show (x.cps ++ y.cps).toList = _
  rw [Array.toList_append]
end TM

namespace L2
open PySem PySem.Spec PyProof.Rows PySem.W
def rCount : V → List V → Hp → VK → Prop := fun x vs H Q => ∃ l xs y, x = .ref l ∧ vs = [y] ∧ H l = some (.lst xs) ∧ flatV y = true ∧ xs.all flatV = true ∧ Q (.int ((xs.countP fun z => eqV z y : Nat) : Int)) H
def rIndex : V → List V → Hp → VK → Prop := fun x vs H Q => ∃ l xs y, ∃ j : Nat, ∃ z, x = .ref l ∧ vs = [y] ∧ H l = some (.lst xs) ∧ flatV y = true ∧ xs.all flatV = true ∧ xs[j]? = some z ∧ eqV z y = true ∧
  (∀ m z, m < j → xs[m]? = some z → eqV z y = false) ∧ Q (.int (j : Int)) H
section
variable {X : Cx}
end
def Nx (n i : Nat) (P : Prop) : Prop := ∃ m', m' < n - i ∧ m' = n - (i + 1) ∧ i + 1 ≤ n ∧ P
theorem blkN_none {X : Cx} {scope : Scope} {N' : List Str} {cl : List (Str × Addr)} {σ : St} : BlkN X N' scope cl σ (List.replicate N'.length none) := by
  refine ⟨by simp, fun i x v h1 h2 => ?_⟩
  rw [List.getElem?_replicate] at h2
  split at h2 <;> cases h2
end L2

namespace L2
open PySem PySem.Spec PyProof.Rows
/-! ### an empty dict, of which it is only known that it is one -/
def dcE (a : Addr) : HO := .ext fun h => ∃ o, h.get? a = some o ∧ o.cls = .type "dict"
def tDict0 : TE := fun _ H Q => ∀ p, H p = none → Q (.ref p) (upd H p (dcE p))
section
variable {X : Cx} {pos : Pos}
/-- isinstance against a built-in type, a dict among the things that are asked -/
def IsiD (K : PySem.W.Frag) (H : Hp) (v : V) (T : String) (b : Bool) : Prop := Isi K H v T b ∨ ∃ a, v = .ref a ∧ H a = some (dcE a) ∧ T = "str" ∧ b = false
end
end L2

namespace L2
open PySem PySem.Spec PyProof.Rows
/-! ### == and != of lists -/
def rEqL (K : PySem.W.Frag) : R2 := fun x y H Q => ∃ a b xs ys, ∃ e : Nat → Bool, x = .ref a ∧ y = .ref b ∧ SqL K H a xs ∧ SqL K H b ys ∧ (∀ (j : Nat) x y, xs[j]? = some x → ys[j]? = some y → DEq K H 40 x y (e j)) ∧
  Q (.bl ((List.range (min xs.length ys.length)).all e && xs.length == ys.length)) H
def rNeL (K : PySem.W.Frag) : R2 := fun x y H Q => ∃ a b xs ys, ∃ e : Nat → Bool, x = .ref a ∧ y = .ref b ∧ SqL K H a xs ∧ SqL K H b ys ∧ (∀ (j : Nat) x y, xs[j]? = some x → ys[j]? = some y → DEq K H 40 x y (e j)) ∧
  Q (.bl (!((List.range (min xs.length ys.length)).all e && xs.length == ys.length))) H
section
variable {X : Cx}
theorem op_eqL (hu : X.A.units + 64 < cLine) : OpR X (compareOp .Eq) (rEqL X.K) := by
  intro pins s σ H x y v u Q I rx ry h
  obtain ⟨a, b, xs, ys, e, rfl, rfl, hx, hy, hd, q⟩ := h
  cases rx; cases ry
  exact lsts_at I hx hy (by omega) (fun j x y u v h1 h2 r1 r2 => (hd j x y h1 h2).at I (by show X.A.units + 1 + 40 < cLine; omega) r1 r2) X.prog X.w X.xe _ ⟨.bl _, H, I, rfl, q⟩
theorem nels_at {pins : List (Addr × Obj)} {σ : St} {H : Hp} {s : Shared} (I : Inv X pins σ H s) {A : Around} {a b : Addr} {xs ys : List V} {e : Nat → Bool} (hx : SqL X.K H a xs) (hy : SqL X.K H b ys) (hu : A.units < cLine)
    (hd : ∀ (j : Nat) x y u v, xs[j]? = some x → ys[j]? = some y → RelV x u → RelV y v → SeqAt.EqAt A.in1 s u v (e j)) :
    SeqAt.RcNeAt A s (.ref a) (.ref b) (!((List.range (min xs.length ys.length)).all e && xs.length == ys.length)) := by
  obtain ⟨its, r, tx, _⟩ := I.list hx
  obtain ⟨its', r', ty, _⟩ := I.list hy
  have l1 := r.length
  have l2 := r'.length
  by_cases hl : xs.length = ys.length
  · have q := SeqAt.RcNeAt.lists (A := A) (e := e) (isList_of tx) (isList_of ty) (by rw [List.size_toArray, List.size_toArray]; omega) hu (fun j h1 h2 => ?_)
    · rw [List.size_toArray, ← l1] at q
      have e1 : ((List.range (min xs.length ys.length)).all e && xs.length == ys.length) = (List.range xs.length).all e := by
        rw [← hl, Nat.min_self, beq_self_eq_true, Bool.and_true]
      rw [e1]
      exact q
    · rw [List.size_toArray] at h1 h2
      obtain ⟨x, hxj⟩ : ∃ x, xs[j]? = some x := ⟨_, List.getElem?_eq_getElem (by omega)⟩
      obtain ⟨y, hyj⟩ : ∃ y, ys[j]? = some y := ⟨_, List.getElem?_eq_getElem (by omega)⟩
      obtain ⟨u1, hu1, ru1⟩ := r.get hxj
      obtain ⟨u2, hu2, ru2⟩ := r'.get hyj
      have e1 : its.toArray[j] = u1 := by
        have := (List.getElem?_eq_some_iff.mp hu1).2
        simpa using this
      have e2 : its'.toArray[j] = u2 := by
        have := (List.getElem?_eq_some_iff.mp hu2).2
        simpa using this
      rw [e1, e2]
      exact hd j x y u1 u2 hxj hyj ru1 ru2
  · have q := SeqAt.RcNeAt.lists_lengths (A := A) (isList_of tx) (isList_of ty) (by rw [List.size_toArray, List.size_toArray, ← l1, ← l2, bne_iff_ne]; exact hl) hu
    have e1 : ((List.range (min xs.length ys.length)).all e && xs.length == ys.length) = false := by
      rw [beq_eq_false_iff_ne.mpr hl, Bool.and_false]
    rw [e1]
    exact q
theorem op_neL (hu : X.A.units + 64 < cLine) : OpR X (compareOp .NotEq) (rNeL X.K) := by
  intro pins s σ H x y v u Q I rx ry h
  obtain ⟨a, b, xs, ys, e, rfl, rfl, hx, hy, hd, q⟩ := h
  cases rx; cases ry
  exact nels_at I hx hy (by omega) (fun j x y u v h1 h2 r1 r2 => (hd j x y h1 h2).at I (by show X.A.units + 1 + 40 < cLine; omega) r1 r2) X.prog X.w X.xe _ ⟨.bl _, H, I, rfl, q⟩
end
/-- a value that equals itself at sight -/
def Sf (v : V) : Prop := flatV v = true ∨ ∃ a, v = .ref a
theorem eqV_self {v : V} (h : flatV v = true) : eqV v v = true := by
  cases v <;> simp_all [flatV, eqV]
theorem DEq.self {K : PySem.W.Frag} {H : Hp} {n : Nat} {v : V} (h : Sf v) : DEq K H n v v true := by
  rcases h with h | ⟨a, rfl⟩
  · have := DEq.flat (K := K) (H := H) (n := n) h h
    rwa [eqV_self h] at this
  · exact .same
theorem all_true (n : Nat) (m : Nat) (h : n = m) : ((List.range (min n m)).all (fun _ => true) && n == m) = true := by
  subst h
  rw [beq_self_eq_true, Bool.and_true, List.all_eq_true]
  exact fun _ _ => rfl
/-- two lists of the same things -/
def rNeLs (K : PySem.W.Frag) : R2 := fun x y H Q => ∃ a b xs, x = .ref a ∧ y = .ref b ∧ SqL K H a xs ∧ SqL K H b xs ∧ (∀ v ∈ xs, Sf v) ∧ Q (.bl false) H
end L2

namespace L2
open PySem PySem.Spec PyProof.Rows
theorem bt_list : bootBuiltins "list" = some (.type "list") := by decide +kernel
/-! ### the tuples stay -/
def Tk (H H' : Hp) : Prop := ∀ b ys, H b = some (.tup ys) → H' b = some (.tup ys)
theorem Same.tk {H H' : Hp} (s : Same H H') : Tk H H' := fun b ys e => s b _ e
theorem Tk.trans {H H1 H2 : Hp} (h : Tk H H1) (k : Tk H1 H2) : Tk H H2 := fun b ys e => k b ys (h b ys e)
theorem Tk.lst {H : Hp} {l : Addr} {xs : List V} {o : HO} (h : H l = some (.lst xs)) : Tk H (upd H l o) := fun b ys e => by
  have ne : b ≠ l := fun z => by rw [z, h] at e; cases e
  rw [upd_ne ne]
  exact e
theorem sz1000 {n : Nat} (h : n ≤ 1000) : n ≤ sizeLine := Nat.le_trans h (by decide)
/-! ### displays of many elements -/
def starFree : Expr → Bool
  | .Starred .. => false
  | _ => true
end L2

namespace L2
open PySem PySem.Spec PyProof.Rows
/-! ### what a value tells: flat things, and tuples of such, at any depth -/
inductive Dt where
  | i (n : Int)
  | s (x : Str)
  | b (k : Bool)
  | n
  | t (l : List Dt)
/-- a tuple that nothing changes: one of the heap, or of the module -/
def SqZ (K : PySem.W.Frag) (H : Hp) (a : Addr) (xs : List V) : Prop := H a = some (.tup xs) ∨ ∃ (o : Obj) (its : Array Value) (n : Nat), K.lookup a = some o ∧ o.cls = .type "tuple" ∧ o.data = .seq its n ∧ its.size ≤ sizeLine ∧ Vals xs its.toList
theorem SqZ.of {K : PySem.W.Frag} {H : Hp} {a : Addr} {xs : List V} (h : H a = some (.tup xs)) : SqZ K H a xs := .inl h
theorem SqZ.sq {K : PySem.W.Frag} {H : Hp} {a : Addr} {xs : List V} (h : SqZ K H a xs) : SqT K H a xs := by
  rcases h with h | h
  · exact .inl (.inl h)
  · exact .inr h
inductive Dv (K : PySem.W.Frag) (H : Hp) : Nat → V → Dt → Prop where
  | i {n m} : Dv K H n (.int m) (.i m)
  | s {n x} : Dv K H n (.str x) (.s x)
  | b {n k} : Dv K H n (.bl k) (.b k)
  | n {n} : Dv K H n .non .n
  | t {n a xs ds} : SqZ K H a xs → xs.length = ds.length → (∀ (j : Nat) x d, xs[j]? = some x → ds[j]? = some d → Dv K H n x d) → Dv K H (n + 1) (.ref a) (.t ds)
theorem Dv.up {K : PySem.W.Frag} {H : Hp} {n : Nat} {v : V} {d : Dt} (h : Dv K H n v d) : Dv K H (n + 1) v d := by
  induction h with
  | i => exact .i
  | s => exact .s
  | b => exact .b
  | n => exact .n
  | t h1 h2 _ ih => exact .t h1 h2 ih
theorem Dv.mono {K : PySem.W.Frag} {H : Hp} {n m : Nat} {v : V} {d : Dt} (h : Dv K H n v d) (hm : n ≤ m) : Dv K H m v d := by
  induction hm with
  | refl => exact h
  | step _ ih => exact ih.up
theorem Dv.eq {K : PySem.W.Frag} {H : Hp} {n : Nat} {x : V} {d : Dt} (h : Dv K H n x d) : ∀ {m : Nat} {y : V}, Dv K H m y d → DEq K H n x y true := by
  induction h with
  | i => intro m y k; cases k; exact DEq.self (.inl rfl)
  | s => intro m y k; cases k; exact DEq.self (.inl rfl)
  | b => intro m y k; cases k; exact DEq.self (.inl rfl)
  | n => intro m y k; cases k; exact DEq.self (.inl rfl)
  | @t n a xs ds h1 h2 h3 ih =>
    intro m y k
    cases k with
    | @t m b ys _ k1 k2 k3 =>
      by_cases e : a = b
      · subst e
        exact .same
      · have q := DEq.tup (n := n) (e := fun _ => true) e h1.sq k1.sq fun j x y hx hy => ?_
        · rwa [all_true _ _ (h2.trans k2.symm)] at q
        · obtain ⟨d, hd⟩ : ∃ d, ds[j]? = some d := ⟨_, List.getElem?_eq_getElem (by have := (List.getElem?_eq_some_iff.mp hx).1; omega)⟩
          exact ih j x d hx hd (k3 j y d hy hd)
/-- lists of such things -/
def DL (K : PySem.W.Frag) (H : Hp) (n : Nat) (xs : List V) (ds : List Dt) : Prop := xs.length = ds.length ∧ ∀ (j : Nat) x d, xs[j]? = some x → ds[j]? = some d → Dv K H n x d
/-- the same list of things, told twice -/
def rEqDL (K : PySem.W.Frag) : R2 := fun x y H Q => ∃ a b xs ys ds, x = .ref a ∧ y = .ref b ∧ SqL K H a xs ∧ SqL K H b ys ∧ DL K H 40 xs ds ∧ DL K H 40 ys ds ∧ Q (.bl true) H
def rNeDL (K : PySem.W.Frag) : R2 := fun x y H Q => ∃ a b xs ys ds, x = .ref a ∧ y = .ref b ∧ SqL K H a xs ∧ SqL K H b ys ∧ DL K H 40 xs ds ∧ DL K H 40 ys ds ∧ Q (.bl false) H
def rEqDT (K : PySem.W.Frag) : R2 := fun x y H Q => ∃ a b xs ys ds, x = .ref a ∧ y = .ref b ∧ SqT K H a xs ∧ SqT K H b ys ∧ DL K H 40 xs ds ∧ DL K H 40 ys ds ∧ Q (.bl true) H
def rNeDT (K : PySem.W.Frag) : R2 := fun x y H Q => ∃ a b xs ys ds, x = .ref a ∧ y = .ref b ∧ SqT K H a xs ∧ SqT K H b ys ∧ DL K H 40 xs ds ∧ DL K H 40 ys ds ∧ Q (.bl false) H
section
variable {X : Cx}
end
end L2

namespace L2
open PySem PySem.Spec PyProof.Rows
/-! ### a comprehension that takes names over -/
theorem closure_go {env : Env} : ∀ (names : List (Str × NameKind)) (acc : List (Str × Addr)), (∀ y ∈ names, y.2 = NameKind.free → ∃ c, env.cells.lookup y.1 = some c) → (∀ x c, acc.lookup x = some c → env.cells.lookup x = some c) →
    ∃ cl, (forIn (m := Sem) names acc (fun x r => do if (x.2 == NameKind.free) = true then do let c ← cellOf env x.1; pure (ForInStep.yield ((x.1, c) :: r)) else pure (ForInStep.yield r))) = pure cl ∧
      (∀ x c, cl.lookup x = some c → env.cells.lookup x = some c) ∧ (∀ y ∈ names, y.2 = NameKind.free → ∃ c, cl.lookup y.1 = some c) ∧ ∀ x, (∃ c, acc.lookup x = some c) → ∃ c, cl.lookup x = some c
  | [], acc, _, h2 => ⟨acc, rfl, h2, (fun y hy => by simp at hy), fun _ h => h⟩
  | y :: r, acc, h1, h2 => by
    by_cases e : y.2 = NameKind.free
    · obtain ⟨c, hc⟩ := h1 y List.mem_cons_self e
      obtain ⟨cl, e1, e2, e3, e4⟩ := closure_go r ((y.1, c) :: acc) (fun z hz => h1 z (List.mem_cons_of_mem _ hz)) (fun x d hx => by
        rw [List.lookup_cons] at hx
        split at hx
        · rename_i hb
          have : x = y.1 := eq_of_beq hb
          rw [this, hc]
          exact hx
        · exact h2 x d hx)
      refine ⟨cl, ?_, e2, fun z hz ez => ?_, fun x hx => e4 x ?_⟩
      · rw [List.forIn_cons, if_pos (by rw [e]; rfl)]
        unfold cellOf
        rw [hc]
        simp only [pure_bind]
        exact e1
      · rcases List.mem_cons.mp hz with rfl | hz
        · exact e4 z.1 ⟨c, by rw [List.lookup_cons, beq_self_eq_true]⟩
        · exact e3 z hz ez
      · obtain ⟨d, hd⟩ := hx
        rw [List.lookup_cons]
        split
        · exact ⟨c, rfl⟩
        · exact ⟨d, hd⟩
    · obtain ⟨cl, e1, e2, e3, e4⟩ := closure_go r acc (fun z hz => h1 z (List.mem_cons_of_mem _ hz)) h2
      refine ⟨cl, ?_, e2, fun z hz ez => ?_, e4⟩
      · rw [List.forIn_cons, if_neg (by intro z; exact e (eq_of_beq z))]
        simp only [pure_bind]
        exact e1
      · rcases List.mem_cons.mp hz with rfl | hz
        · exact absurd ez e
        · exact e3 z hz ez
theorem closure_ok {scope : Scope} {env : Env} (h : ∀ y ∈ scope.names, y.2 = NameKind.free → ∃ c, env.cells.lookup y.1 = some c) :
    ∃ cl, closureFor scope env = pure cl ∧ (∀ x c, cl.lookup x = some c → env.cells.lookup x = some c) ∧ ∀ y ∈ scope.names, y.2 = NameKind.free → ∃ c, cl.lookup y.1 = some c := by
  obtain ⟨cl, e1, e2, e3, _⟩ := closure_go (env := env) scope.names [] h (fun x c e => by simp at e)
  refine ⟨cl, ?_, e2, e3⟩
  simp only [closureFor]
  rw [show (forIn (m := Sem) scope.names [] fun x r => if (x.2 == NameKind.free) = true then (do let c ← cellOf env x.1; pure (ForInStep.yield ((x.1, c) :: r))) else pure (ForInStep.yield r)) = pure cl from e1]
  rfl
theorem relabel_from {scope : Scope} {env : Env} {x : Str} (hc : ∀ y ∈ scope.names, y.2 ≠ NameKind.cell) (h : (relabel scope env).names.lookup x = some .cell ∨ (relabel scope env).names.lookup x = some .free) : ∃ y ∈ scope.names, y.1 = x ∧ y.2 = NameKind.free := by
  have e' : ∃ k, (k = NameKind.cell ∨ k = NameKind.free) ∧ (relabel scope env).names.lookup x = some k := by
    rcases h with e | e
    · exact ⟨_, .inl rfl, e⟩
    · exact ⟨_, .inr rfl, e⟩
  obtain ⟨k, hk, e⟩ := e'
  have hm := PySem.mem_of_lookup e
  obtain ⟨y, hy, hy2⟩ := List.mem_map.mp hm
  obtain ⟨n, kk⟩ := y
  have hn := hc _ hy
  simp only at hy2 hn
  split at hy2
  · rename_i hf
    injection hy2 with a1 a2
    subst a1
    simp only [Bool.and_eq_true] at hf
    exact ⟨(n, kk), hy, rfl, eq_of_beq hf.1.1⟩
  · injection hy2 with a1 a2
    subst a1 a2
    rcases hk with rfl | rfl
    · exact absurd rfl hn
    · exact ⟨_, hy, rfl, rfl⟩
theorem clOk_of {X : Cx} (ok : X.Ok) {scope : Scope} (hc : ∀ y ∈ scope.names, y.2 ≠ NameKind.cell) (h : ∀ y ∈ scope.names, y.2 = NameKind.free → X.env.kindOf y.1 = some .cell ∨ X.env.kindOf y.1 = some .free) : ∃ cl, ClOk X scope cl := by
  obtain ⟨cl, e1, e2, e3⟩ := closure_ok (scope := scope) (env := X.env) fun y hy ey => ok.has y.1 (h y hy ey)
  refine ⟨cl, e1, e2, fun x hx => ?_⟩
  obtain ⟨y, hy, rfl, ey⟩ := relabel_from hc hx
  exact e3 y hy ey
theorem pe_compC {X : Cx} {elt tg iter : Expr} {ifs : List Expr} {scope : Scope} {pos : Pos} {N' : List Str} {wi : TI} {g : TG} {tt : TT} {te : TE} (σf : St → St)
    (hc : X.calm = true) (hkind : scope.kind = .function) (hcell : ∀ y ∈ scope.names, y.2 ≠ .cell) (hnames : ∀ y ∈ scope.names, y.2 = .local → scope.names.lookup y.1 = some .local)
    (hk : ∀ y ∈ scope.names, y.2 = NameKind.free → X.env.kindOf y.1 = some .cell ∨ X.env.kindOf y.1 = some .free)
    (hN : ∀ cl (σ : St), σ.length = X.N.length → BlkN X N' scope cl σ (σf σ)) (hi : PI X tg iter wi)
    (hg : ∀ cl C s₀ H₀ ex pn, PG (blk X N' scope cl C s₀ H₀ ex pn) tg g) (ht : ∀ cl C s₀ H₀ ex pn, PIfs (blk X N' scope cl C s₀ H₀ ex pn) ifs tt) (he : ∀ cl C s₀ H₀ ex pn, PE (blk X N' scope cl C s₀ H₀ ex pn) elt te)
    (hs : ∀ x, foldedSetIterable iter X.env x = pure x := by intro _; rfl) : PE X (.ListComp elt [⟨tg, iter, ifs, 0⟩] scope pos) (tComp σf wi g tt te) := by
  intro pins s σ H Q I h
  obtain ⟨cl, hcl⟩ := clOk_of I.ok hcell hk
  exact pe_comp σf hc hkind hcell hnames hcl (hN cl) hi (hg cl) (ht cl) (he cl) hs pins s σ H Q I h
/-- the names that are taken over: free in the block, cells of the frame -/
theorem hk_of {X : Cx} {scope sc : Scope} (hs : X.env.scope = sc) (h : (scope.names.all fun y => y.2 != NameKind.free || sc.names.lookup y.1 == some NameKind.cell || sc.names.lookup y.1 == some NameKind.free) = true) :
    ∀ y ∈ scope.names, y.2 = NameKind.free → X.env.kindOf y.1 = some .cell ∨ X.env.kindOf y.1 = some .free := fun y hy ey => by
  have q := List.all_eq_true.mp h y hy
  unfold Env.kindOf
  rw [hs]
  rw [ey] at q
  simp only [bne_self_eq_false, Bool.false_or, Bool.or_eq_true] at q
  rcases q with q | q
  · exact .inl (eq_of_beq q)
  · exact .inr (eq_of_beq q)
theorem lookup_relabel_free {env : Env} {x : Str} (hk : env.scope.kind = .function) (hx : env.kindOf x = some .cell) : ∀ {names : List (Str × NameKind)}, names.lookup x = some .free →
    (names.map fun (n, k) => if (k == NameKind.free && env.scope.kind == .function && env.kindOf n == some .cell) then (n, NameKind.cell) else (n, k)).lookup x = some .cell
  | [], h => by simp at h
  | (n, k) :: r, h => by
    rw [List.map_cons]
    rw [List.lookup_cons] at h
    by_cases e : (x == n) = true
    · rw [e] at h
      have e' : x = n := eq_of_beq e
      subst e'
      have hf : k = NameKind.free := Option.some.inj h
      subst hf
      have c : (NameKind.free == NameKind.free && env.scope.kind == .function && env.kindOf x == some .cell) = true := by rw [hk, hx]; rfl
      rw [show (match ((x, NameKind.free) : Str × NameKind) with | (n, k) => if (k == NameKind.free && env.scope.kind == .function && env.kindOf n == some .cell) = true then (n, NameKind.cell) else (n, k)) = (x, NameKind.cell) from if_pos c]
      rw [List.lookup_cons, beq_self_eq_true]
    · have e0 : (x == n) = false := by simpa using e
      rw [e0] at h
      have ih := lookup_relabel_free hk hx h
      have en : ∀ q : Str × NameKind, q.1 = n → (q :: (r.map fun (n, k) => if (k == NameKind.free && env.scope.kind == .function && env.kindOf n == some .cell) then (n, NameKind.cell) else (n, k))).lookup x = some .cell := fun q hq => by
        obtain ⟨q1, q2⟩ := q
        simp only at hq
        subst hq
        rw [List.lookup_cons, e0]
        exact ih
      refine en _ ?_
      show (if _ then (n, NameKind.cell) else (n, k)).1 = n
      split <;> rfl
theorem blkN_by {X : Cx} {N' N : List Str} {scope sc : Scope} {cl : List (Str × Addr)} {σ : St} (ts : List (Option Nat)) (hN : X.N = N) (hsc : X.env.scope = sc) (hl : ts.length = N'.length) (hk : sc.kind = .function)
    (h : ((ts.zip N').all fun p => match p.1 with | none => true | some j => N[j]? == some p.2 && sc.names.lookup p.2 == some NameKind.cell && scope.names.lookup p.2 == some NameKind.free) = true) :
    BlkN X N' scope cl σ (ts.map fun t => t.bind fun j => (σ[j]?).join) := by
  refine ⟨by rw [List.length_map, hl], fun i x v h1 h2 => ?_⟩
  rw [List.getElem?_map] at h2
  cases ht : ts[i]? with
  | none => rw [ht] at h2; cases h2
  | some t =>
    rw [ht] at h2
    have h2' : (t.bind fun j => (σ[j]?).join) = some v := Option.some.inj h2
    cases t with
    | none => cases h2'
    | some j =>
      have hm : (some j, x) ∈ ts.zip N' := List.mem_of_getElem? (by rw [List.getElem?_zip_eq_some]; exact ⟨ht, h1⟩ : (ts.zip N')[i]? = some (some j, x))
      have q := List.all_eq_true.mp h _ hm
      simp only [Bool.and_eq_true] at q
      obtain ⟨⟨q1, q2⟩, q3⟩ := q
      have q1' := eq_of_beq q1
      have q2' := eq_of_beq q2
      have q3' := eq_of_beq q3
      have kd : X.env.kindOf x = some .cell := by
        unfold Env.kindOf
        rw [hsc]
        exact q2'
      refine ⟨j, by rw [hN]; exact q1', ?_, by rw [hsc]; exact .inr (.inl q2'), (by rw [kd]; decide), .inl (lookup_relabel_free (by rw [hsc]; exact hk) kd q3')⟩
      have h3 : (σ[j]?).join = some v := h2'
      cases hj : σ[j]? with
      | none => rw [hj] at h3; cases h3
      | some o => rw [hj] at h3; cases o with
        | none => cases h3
        | some u => cases h3; rfl
end L2

namespace L2
open PySem PySem.Spec PyProof.Rows
/-! ### name = [ .. for .. ]: the name is stored ahead of the block's end -/
theorem ps_comp {X : Cx} {iy : Nat} {y : Str} {py spos : Pos} {elt tg iter : Expr} {ifs : List Expr} {scope : Scope} {pos : Pos} {N' : List Str} {cl : List (Str × Addr)} {wi : TI} {g : TG} {tt : TT} {te : TE} (σf : St → St)
    (hc : X.calm = true) (hkind : scope.kind = .function) (hcell : ∀ y ∈ scope.names, y.2 ≠ .cell) (hnames : ∀ y ∈ scope.names, y.2 = .local → scope.names.lookup y.1 = some .local) (hcl : ClOk X scope cl)
    (hN : ∀ σ : St, σ.length = X.N.length → BlkN X N' scope cl σ (σf σ)) (hi : PI X tg iter wi)
    (hg : ∀ C s₀ H₀ ex pn, PG (blk X N' scope cl C s₀ H₀ ex pn) tg g) (ht : ∀ C s₀ H₀ ex pn, PIfs (blk X N' scope cl C s₀ H₀ ex pn) ifs tt) (he : ∀ C s₀ H₀ ex pn, PE (blk X N' scope cl C s₀ H₀ ex pn) elt te)
    (hnd : X.N.Nodup) (hiy : X.N[iy]? = some y) (hy : Loc X.env.scope y) (hfy : X.fn y = true ∨ X.env.scope.names.lookup y = some .local)
    (hsw : swapsWith (.ListComp elt [⟨tg, iter, ifs, 0⟩] scope pos) (some (.Name y py)) spos.line X.env = pure true)
    (hs : ∀ x, foldedSetIterable iter X.env x = pure x := by intro _; rfl) : PS X (.Assign [.Name y py] (.ListComp elt [⟨tg, iter, ifs, 0⟩] scope pos) spos) (tAsg (tComp σf wi g tt te) (gName iy)) := by
  intro pins s σ H Dn I h
  rw [exec_Assign_Name_used _ _ _ _ hsw]
  refine wpAny_bind (wpAny_standAt (wpAny_bind ?_))
  show wpAny _ X.A (do let _ ← comprehension (.ListComp elt [⟨tg, iter, ifs, 0⟩] scope pos) scope X.env _ (newList []) false (eval iter X.env) (some (assign (.Name y py) X.env))) _ _ s
  refine wpAny_bind (wpAny_mono (wpAny_comprehension_free (use := some (assign (.Name y py) X.env)) (Q := fun _ s' => SP X pins Dn .next s') rfl hs hcl.run hkind hnames
    (thn (hi pins s σ H _ I h) fun v s1 h1 => thn h1 fun itv s2 h2 => ?_)) (fun _ s' hq => wpAny_pure (wpAny_pure hq)) fun _ _ e => e)
  obtain ⟨it, fp, tn, J, H2, rfl, I2, T, st2, f2, q⟩ := h2
  refine wpAny_newObj_type (wpAny_newFunctionEnv hcell (by intro y hy; simp at hy) (fun h₁ hns₁ hsb₁ => ?_) hkind)
  dsimp only at hns₁ hsb₁ ⊢
  have hfo : ∀ b ∈ fp, b < s2.heap.objs.size := fun b hb => by
    obtain ⟨o, e, _⟩ := T.obj _ _ st2 b hb
    exact Heap.lt_size e
  have hDf : H2 s2.heap.objs.size = none := I2.hok.fresh (Nat.le_refl _)
  obtain ⟨W, ⟨m0, w0⟩, turn⟩ := q s2.heap.objs.size hDf
  have I3 : Inv X pins σ (upd H2 s2.heap.objs.size (.lst [])) { s2 with heap := s2.heap.push { cls := .type "list", data := .seq ([] : List Value).toArray } } := I2.lnew (its := []) (t' := s2.toks) .nil (Nat.zero_le _)
  have f3 : ∀ b ∈ fp, FpOk X pins (upd H2 s2.heap.objs.size (.lst [])) b := fun b hb => ⟨by rw [upd_ne (Nat.ne_of_lt (hfo b hb))]; exact (f2 b hb).1, (f2 b hb).2⟩
  generalize hD : s2.heap.objs.size = D at *
  generalize hs3 : ({ s2 with heap := s2.heap.push { cls := .type "list", data := .seq ([] : List Value).toArray } } : Shared) = s3 at *
  have hh3 : s3.heap = s2.heap.push { cls := .type "list", data := .seq ([] : List Value).toArray } := by rw [← hs3]
  have hsz3 : s2.heap.objs.size < s3.heap.objs.size := by rw [hh3, Heap.size_push]; exact Nat.lt_succ_self _
  have e3 : ∀ h t, ({ s2 with heap := h, toks := t } : Shared) = { s3 with heap := h, toks := t } := fun h t => by rw [← hs3]
  rw [← hh3] at hns₁ hsb₁ ⊢
  have hk3 : ∀ b o, s3.heap.get? b = some o → h₁.get? b = some o := fun b o e => hsb₁.extBut b o (Nat.ne_of_lt (Heap.lt_size e)) (Heap.get?_push_of_some _ e)
  have I4 := blk_start (t' := s3.toks) I3 hkind hcl (hN σ I.len) f3 (fun b hb => Nat.lt_trans (hfo b hb) (hD ▸ hsz3)) (hns := by simpa using hns₁) hk3
  generalize hB : blk X N' scope cl s3.heap.objs.size s3 (upd H2 D (.lst [])) fp (X.pn ++ pins) = B at *
  have hBp : B.prog = X.prog := by rw [← hB]; rfl
  have hBw : B.w = X.w := by rw [← hB]; rfl
  have hBK : B.K = X.K := by rw [← hB]; rfl
  have hBA : B.A = X.A := by rw [← hB]; rfl
  have hBc : B.calm = true := by rw [← hB]; exact hc
  have hBe : B.env = compEnvC scope cl s3.heap.objs.size X.env := by rw [← hB]; rfl
  have hBx : B.xe = fun _ _ => False := by rw [← hB]; rfl
  have hGB : PG B tg g := hB ▸ hg _ _ _ _ _
  have hTB : PIfs B ifs tt := hB ▸ ht _ _ _ _ _
  have hEB : PE B elt te := hB ▸ he _ _ _ _ _
  have stat : ∀ {H' : Hp}, (∀ b ∈ fp, H' b = none) → ∀ b ∈ fp, FpOk B [] H' b := fun {H'} hn b hb => by
    obtain ⟨f0, f1, f2', f3', f4, f5⟩ := f3 b hb
    rw [← hB]
    refine ⟨hn b hb, Nat.ne_of_lt (Nat.lt_trans (hfo b hb) (hD ▸ hsz3)), fun z => ?_, .inl hb, fun x c e => f4 x c (hcl.sub x c e), fun p hp => ?_⟩
    · rcases List.mem_cons.mp (I.stkSub b z) with z | z
      · exact f1 z
      · exact f2' z
    · rw [show (blk X N' scope cl s3.heap.objs.size s3 (upd H2 D (.lst [])) fp (X.pn ++ pins)).pn = X.pn ++ pins from rfl, List.append_nil] at hp
      exact f5 p hp
  have loop : ∀ s4 : Shared, Inv B [] (σf σ) (upd H2 D (.lst [])) s4 → tn 0 s4.heap →
      codeAny (model X.prog X.w) X.A (.compLoop (.ListComp elt [⟨tg, iter, ifs, 0⟩] scope pos) 0 (.ref it) (.ref D) (compEnvC scope cl s3.heap.objs.size X.env)) (compPost (model X.prog X.w) X.A X.xe (some (assign (.Name y py) X.env)) (fun _ s' => SP X pins Dn .next s') (.ref D) s3.heap.objs.size) s4 := by
    intro s4 I4 st4
    refine compLoop_gen (I := fun n s' => ∃ i ys H', Inv B [] (σf σ) H' s' ∧ tn i s'.heap ∧ (∀ b ∈ fp, H' b = none) ∧ W i n ys H') ?_ m0 ⟨0, [], _, I4, st4, fun b hb => (f3 b hb).1, w0⟩
    rintro n s5 ⟨i, ys, H5, I5, st5, fr5, w5⟩
    obtain ⟨hD5, hlen5, alt⟩ := turn i n ys H5 w5
    rcases alt with ⟨stop, qn⟩ | ⟨go, step⟩
    · have z := T.done B hBp hBw hBK hBc i [] s5 (σf σ) H5 (fun _ _ => False) I5 (stat fr5) st5 stop
      rw [hBA] at z
      refine thn z fun r s6 ⟨hr, I6⟩ => ?_
      subst hr
      obtain ⟨m6, hn6, _⟩ := I6.loc
      rw [hBe] at hn6
      subst hB
      have I6x : Inv X pins σ H5 s6 := blk_end I3 f3 I6 (h'' := s6.heap) ⟨rfl, fun _ _ => rfl⟩
      have fC : FpOk X pins H5 s3.heap.objs.size := I3.fpOk (Nat.le_refl _) I6.free
      obtain ⟨g0, g1, g2, g3, g4, g5⟩ := id fC
      obtain ⟨oC, es, ep, hoC, hdC, rest⟩ := hn6
      have I6p := I6x.pinned (fp := [s3.heap.objs.size]) (fun b hb => by rw [List.mem_singleton.mp hb]; exact fC) (fun b hb => ⟨oC, by rw [List.mem_singleton.mp hb]; exact hoC, fun v e => by rw [hdC] at e; cases e⟩)
      show wpAny (model X.prog X.w) X.A (assign (.Name y py) X.env (.ref D)) _ X.xe s6
      refine thn (pg_name (i := iy) (pos := py) hnd hiy hy hfy _ s6 σ H5 (.ref D) (.ref D) (fun σ' H' => Dn.nx σ' H') I6p rfl qn) fun _ s7 ⟨σ7, H7, I7, q7⟩ => ?_
      have pc := I7.pin (s3.heap.objs.size, oC) (List.mem_append_right _ (List.mem_append_right _ (mem_pinsAt (by simp) hoC)))
      refine ⟨m6, ⟨oC, es, ep, pc.1, hdC, rest⟩, fun h' hs' => ⟨σ7, H7, ?_, q7⟩⟩
      exact I7.unpinned.turned (t' := s7.toks) (fun b o hb e => hs'.extBut b o hb e) pc.2.1 g1 g3 g4 g5
    · have z := T.item B hBp hBw hBK hBc i [] s5 (σf σ) H5 (fun _ _ => False) I5 (stat fr5) st5 go
      rw [hBA] at z
      refine thn z fun r s6 ⟨u, hr, h6⟩ => ?_
      subst hr
      refine thn h6 fun _ s7 ⟨x, H7, I7, r7, y7, st7, fr7⟩ => ?_
      have I7' := I7.pinned (stat fr7) (T.obj _ _ st7)
      have z8 := hGB _ s7 (σf σ) H7 x u _ I7' r7 (step x H7 y7)
      rw [hBp, hBw, hBA, hBe, hBx] at z8
      refine thn z8 fun _ s8 ⟨σ8, H8, I8, k8, q8⟩ => ?_
      have z9 := hTB _ s8 σ8 H8 _ I8 q8
      rw [hBp, hBw, hBA, hBe, hBx] at z9
      refine thn z9 fun ok s9 ⟨H9, I9, q9⟩ => ?_
      have again : ∀ {ys' : List V} {H' : Hp} {s' : Shared}, Inv B ([] ++ pinsAt fp s7.heap) σ8 H' s' → (∃ m', m' < n ∧ W (i + 1) m' ys' H') → ∃ m, m < n ∧ ∃ i ys H', Inv B [] (σf σ) H' s' ∧ tn i s'.heap ∧ (∀ b ∈ fp, H' b = none) ∧ W i m ys H' := fun {ys' H' s'} J ⟨m', hm, w'⟩ => by
        refine ⟨m', hm, i + 1, ys', H', J.unpinned.weak k8.len.symm k8.at', T.keep _ _ _ st7 fun b hb o e => (J.pin (b, o) (List.mem_append_right _ (List.mem_append_right _ (mem_pinsAt hb e)))).1, fun b hb => ?_, w'⟩
        obtain ⟨o, e, d⟩ := T.obj _ _ st7 b hb
        exact (J.pin (b, o) (List.mem_append_right _ (List.mem_append_right _ (mem_pinsAt hb e)))).2.1
      cases ok with
      | false => exact again I9 q9
      | true =>
        have z10 := hEB _ s9 σ8 H9 _ I9 q9
        rw [hBp, hBw, hBA, hBe, hBx] at z10
        refine thn z10 fun y10 s10 ⟨y, H10, I10, r10, hD10, q10⟩ => ?_
        have z11 := mt_append (X := B) _ s10 σ8 H10 (.ref D) [y] (.ref D) [y10] (fun _ H' => ∃ m', m' < n ∧ W (i + 1) m' (ys ++ [y]) H') I10 rfl (.cons r10 .nil) ⟨D, ys, y, rfl, rfl, hD10, hlen5, q10⟩
        rw [hBp, hBw, hBA, hBx] at z11
        refine thn z11 fun _ s11 ⟨_, H11, I11, _, q11⟩ => again I11 q11
  have st4 : tn 0 ({ s3 with heap := h₁, toks := s3.toks } : Shared).heap := T.keep _ _ _ st2 fun b hb o e => hk3 b o (by rw [hh3]; exact Heap.get?_push_of_some _ e)
  have L4 := loop _ I4 st4
  subst hs3
  exact codeAny_compStart_list L4 (T.self _ 0 _ _ _ st4 L4)
end L2

namespace L2
open PySem PySem.Spec PyProof.Rows
/-! ### comprehensions, by what each element is -/
/-- an iterator that gives the things xs, as long as the heap only grows -/
structure Ys (J : It) (xs : List V) (H1 : Hp) : Prop where
  go : ∀ i H, Same H1 H → i < xs.length → J.go i H
  yld : ∀ i H x H', Same H1 H → i < xs.length → J.yld i H x H' → H' = H ∧ xs[i]? = some x
  stop : ∀ i H, Same H1 H → xs.length ≤ i → J.stop i H
theorem Ys.tup {K : PySem.W.Frag} {a : Addr} {xs : List V} {H1 : Hp} (h : SqT K H1 a xs) : Ys (Itt K a) xs H1 where
  go := fun i H s hi => ⟨xs, xs[i], s.tup h, List.getElem?_eq_getElem hi⟩
  yld := fun i H x H' s _ y => ⟨y.1, y.2 xs (s.tup h)⟩
  stop := fun i H s hi => ⟨xs, s.tup h, hi⟩
def rngV (lo : Int) (n : Nat) : List V := (List.range n).map fun (i : Nat) => V.int (lo + (i : Int))
theorem rngV_len (lo : Int) (n : Nat) : (rngV lo n).length = n := by unfold rngV; rw [List.length_map, List.length_range]
theorem rngV_get {lo : Int} {n i : Nat} {x : V} (h : (rngV lo n)[i]? = some x) : i < n ∧ x = .int (lo + i) := by
  have hi : i < n := by rw [← rngV_len lo n]; exact (List.getElem?_eq_some_iff.mp h).1
  unfold rngV at h
  rw [List.getElem?_map, List.getElem?_range hi] at h
  exact ⟨hi, (Option.some.inj h).symm⟩
theorem Ys.rng {lo : Int} {n : Nat} {H1 : Hp} : Ys (Itr lo n) (rngV lo n) H1 where
  go := fun i H _ hi => by rw [rngV_len] at hi; exact hi
  yld := fun i H x H' _ hi y => ⟨y.1, by
    obtain ⟨_, rfl⟩ := y
    rw [rngV_len] at hi
    unfold rngV
    rw [List.getElem?_map, List.getElem?_range hi]
    rfl⟩
  stop := fun i H _ hi => by rw [rngV_len] at hi; exact hi
theorem snoc_get {α : Type} {ys : List α} {y z : α} {j : Nat} (h : (ys ++ [y])[j]? = some z) : (j < ys.length ∧ ys[j]? = some z) ∨ (j = ys.length ∧ z = y) := by
  by_cases hj : j < ys.length
  · rw [List.getElem?_append_left hj] at h
    exact .inl ⟨hj, h⟩
  · rw [List.getElem?_append_right (by omega)] at h
    have e0 : j - ys.length = 0 := by
      cases hz : j - ys.length with
      | zero => rfl
      | succ n => rw [hz] at h; simp at h
    rw [e0] at h
    exact .inr ⟨by omega, by simpa using h.symm⟩
theorem comp_rel {J : It} {xs : List V} {D : Addr} {g : TG} {te : TE} {σ0 : St} {QD : Hp → Prop} {H1 : Hp} (Y : Ys J xs H1) (Pr : Nat → V → V → Hp → Prop) (hP : ∀ i x y H H', Pr i x y H → Tk H H' → Pr i x y H') (hD : H1 D = none) (hl : xs.length ≤ 1000)
    (hs : ∀ i x H' (R : VK), xs[i]? = some x → Same H1 H' → (∀ y H4, Same H' H4 → Pr i x y H4 → R y H4) → g x σ0 H' fun σ2 H2 => Keep σ0 σ2 ∧ te σ2 H2 R)
    (hd : ∀ ys H', Same H1 H' → H' D = some (.lst ys) → ys.length = xs.length → (∀ i x y, xs[i]? = some x → ys[i]? = some y → Pr i x y H') → QD H') :
    ∃ W : Nat → Nat → List V → Hp → Prop, (∃ m, W 0 m [] (upd H1 D (.lst []))) ∧ ∀ i m ys H, W i m ys H → H D = some (.lst ys) ∧ ys.length < sizeLine ∧
      ((J.stop i H ∧ QD H) ∨ (J.go i H ∧ ∀ x H', J.yld i H x H' → g x σ0 H' fun σ2 H2 => Keep σ0 σ2 ∧ tNoIf σ2 H2 fun b H3 =>
        if b = true then te σ2 H3 fun y H4 => H4 D = some (.lst ys) ∧ ∃ m', m' < m ∧ W (i + 1) m' (ys ++ [y]) (upd H4 D (.lst (ys ++ [y]))) else ∃ m', m' < m ∧ W (i + 1) m' ys H3)) := by
  refine ⟨fun i m ys H => m = xs.length - i ∧ i ≤ xs.length ∧ Same H1 H ∧ H D = some (.lst ys) ∧ ys.length = i ∧ ∀ j x y, xs[j]? = some x → ys[j]? = some y → Pr j x y H,
    ⟨_, rfl, Nat.zero_le _, Same.upd hD, upd_same, rfl, fun j x y _ h => by simp at h⟩, ?_⟩
  rintro i m ys H ⟨rfl, hi, sm, hDH, yl, pr⟩
  refine ⟨hDH, small1000 (by omega), ?_⟩
  by_cases hlt : i < xs.length
  · refine .inr ⟨Y.go i H sm hlt, fun x H' y => ?_⟩
    obtain ⟨rfl, hx⟩ := Y.yld i H x H' sm hlt y
    refine hs i x H' _ hx sm fun y H4 s4 py => ?_
    have hD4 := s4 _ _ hDH
    have tk : Tk H4 (upd H4 D (.lst (ys ++ [y]))) := Tk.lst hD4
    refine ⟨hD4, xs.length - (i + 1), by omega, rfl, hlt, fun b o hb => ?_, upd_same, by rw [List.length_append, yl]; rfl, fun j x' y' hx' hy' => ?_⟩
    · rw [upd_ne (ne_of_none hb hD)]
      exact s4 _ _ (sm _ _ hb)
    · rcases snoc_get hy' with ⟨_, hy'⟩ | ⟨e, e'⟩
      · exact hP _ _ _ _ _ (hP _ _ _ _ _ (pr j x' y' hx' hy') (Same.tk s4)) tk
      · subst e'
        have : j = i := by omega
        subst this
        rw [hx] at hx'
        cases hx'
        exact hP _ _ _ _ _ py tk
  · have e : i = xs.length := by omega
    subst e
    exact .inl ⟨Y.stop _ H sm (Nat.le_refl _), hd ys H sm hDH yl pr⟩
/-! ### rules within a comprehension: the module is named, so that the reading does not hang on the block -/
theorem ix_tupK {X : Cx} {K : PySem.W.Frag} (h : X.K = K) : IxR X (rIxT K) := h ▸ ix_tup
end L2

namespace L2
open PySem PySem.Spec PyProof.Rows
/-! ### zip of a tuple and a list -/
section
variable {prog : Program} {w : World} {A : Around} {E : Value → Shared → Prop} {s : Shared}
theorem tupNext {it t : Addr} {i : Nat} {its : Array Value} {x : Value} {Q : Value → Shared → Prop} (st : s.heap.IsTupleIter it t i) (hl : s.heap.IsTuple t its) (hx : its[i]? = some x)
    (q : ∀ g, g.IsTupleIter it t (i + 1) → Heap.SameBut it s.heap g → Q x { s with heap := g }) : wpAny (model prog w) A (Builtin.SmallTypes.nextOf (.ref it)) Q E s := by
  obtain ⟨ob, e1, e2, e3⟩ := id st
  obtain ⟨ot, e4, _, m, e5⟩ := hl
  unfold Builtin.SmallTypes.nextOf
  refine wpAny_bind (wpAny_callSpecial?_slot (name := Str.ofString "__next__") st.typeIs F.slot_tuple_iterator_next (wpAny_call_entry F.slot_tuple_iterator_next st.typeIs F.entry_tuple_iterator_next ?_ (F.args_tuple_iterator_next_1 _)))
  refine wpAny_bind (m := field (.ref it) 0) (wpAny_field e1 e3 (x := .ref t) rfl ?_)
  show wpAny _ _ (if (Value.ref t == Value.none) = true then _ else (field (.ref it) 1 >>= _)) _ _ s
  rw [if_neg (show ¬ (Value.ref t == Value.none) = true from (fun z => nomatch z))]
  refine wpAny_bind (wpAny_field e1 e3 (x := .int i 0) rfl (wpAny_bind (m := seqItems? (.ref t)) (wpAny_seqItems e4 e5 ?_)))
  simp only [Int.toNat_natCast, hx]
  refine wpAny_bind (wpAny_setField e1 e3 (by simp) (wpAny_pure ⟨x, rfl, wpAny_pure (q _ ⟨_, Heap.get?_update_self _ e1 (Obj.isFreed_of_fields (Obj.data_mapFields e3 _)), (Obj.cls_mapFields ..).trans e2, ?_⟩ (Heap.SameBut.update ..))⟩))
  rw [Obj.data_mapFields e3]
  simp [rawInt]
theorem tupStop {it t : Addr} {i : Nat} {its : Array Value} {Q : Value → Shared → Prop} (hh : A.handled = none) (st : s.heap.IsTupleIter it t i) (hl : s.heap.IsTuple t its) (hx : its[i]? = none)
    (q : ∀ g e, Heap.ExtBut it s.heap g → (∃ o, g.get? e = some o ∧ o.cls = .type "StopIteration") → E (.ref e) { s with heap := g }) : wpAny (model prog w) A (Builtin.SmallTypes.nextOf (.ref it)) Q E s := by
  obtain ⟨ob, e1, e2, e3⟩ := id st
  obtain ⟨ot, e4, _, m, e5⟩ := hl
  unfold Builtin.SmallTypes.nextOf
  refine wpAny_bind (wpAny_callSpecial?_slot (name := Str.ofString "__next__") st.typeIs F.slot_tuple_iterator_next (wpAny_call_entry F.slot_tuple_iterator_next st.typeIs F.entry_tuple_iterator_next ?_ (F.args_tuple_iterator_next_1 _)))
  refine wpAny_bind (m := field (.ref it) 0) (wpAny_field e1 e3 (x := .ref t) rfl ?_)
  show wpAny _ _ (if (Value.ref t == Value.none) = true then _ else (field (.ref it) 1 >>= _)) _ _ s
  rw [if_neg (show ¬ (Value.ref t == Value.none) = true from (fun z => nomatch z))]
  refine wpAny_bind (wpAny_field e1 e3 (x := .int i 0) rfl (wpAny_bind (m := seqItems? (.ref t)) (wpAny_seqItems e4 e5 ?_)))
  simp only [Int.toNat_natCast, hx]
  refine wpAny_bind (wpAny_rule (wpAny_bind (wpAny_setField e1 e3 (by simp) (wpAny_bind (m := newExc (.type "StopIteration") []) ?_))))
  simp only [newExc, newTuple]
  refine wpAny_bind (wpAny_newObj_type (wpAny_bind (m := firstArgMember _ _) (wpAny_of_eq (a := Value.none) (by first | rfl | (simp only [firstArgMember]; rfl)) (wpAny_newObj_type ?_ (by size_fits)))) (by size_fits))
  simp only [raiseNew]
  refine wpAny_bind (wpAny_handled ?_)
  first | rw [show A.in1.handled = none from hh] | rw [hh]
  exact wpAny_bind (wpAny_pure (wpAny_throw (q _ _ (((Heap.SameBut.update ..).extBut.push _).push _) ⟨_, Heap.get?_push_size _ rfl, rfl⟩)))
theorem drawsTup (hh : A.handled = none) (it t : Addr) (hne : t ≠ it) (its : Array Value) :
    Draws prog w A it [it, t] its.size (fun i v => its[i]? = some v) (fun i h => h.IsTupleIter it t i ∧ h.IsTuple t its) where
  live := fun _ _ z => let ⟨o, e, _⟩ := z.1; ⟨o, e⟩
  frame := fun _ _ _ z k => ⟨z.1.at fun o e => k it (by simp) o e, z.2.at fun o e => k t (by simp) o e⟩
  item := fun i s Q E hi z k => tupNext z.1 z.2 (x := its[i]) (by simp [hi]) fun g z' sb => k _ g s.toks (by simp [hi]) ⟨z', z.2.extBut sb.extBut hne⟩ sb
  done := fun s Q E z k => tupStop hh z.1 z.2 (by simp) k
/-- the objects of a zip are apart -/
structure Ap (z TI TO i1 i2 : Addr) (f1 f2 : List Addr) : Prop where
  a1 : ∀ b ∈ f1, b ≠ z ∧ b ≠ TO ∧ b ≠ i2
  a2 : ∀ b ∈ f2, b ≠ z ∧ b ≠ TO ∧ b ≠ i1
  m1 : i1 ∈ f1
  m2 : i2 ∈ f2
  tz : TI ≠ z
  tO : TI ≠ TO
  t1 : TI ≠ i1
  t2 : TI ≠ i2
  oz : TO ≠ z
section
variable {z TI TO i1 i2 : Addr} {f1 f2 : List Addr} {n1 n2 k : Nat} {P1 P2 : Nat → Value → Prop} {S1 S2 : Nat → Heap → Prop} {a b : Value}
end
end
/-- the i-th items of a tuple and of a list, in a new tuple -/
def Itz (K : PySem.W.Frag) (a b : Addr) : It :=
  ⟨fun i H => ∃ xs ys, SqT K H a xs ∧ SqL K H b ys ∧ i < xs.length ∧ i < ys.length,
   fun i H v H' => ∃ T, H T = none ∧ v = .ref T ∧ ∀ xs ys, SqT K H a xs → SqL K H b ys → ∃ x y, xs[i]? = some x ∧ ys[i]? = some y ∧ H' = upd H T (.tup [x, y]),
   fun i H => ∃ xs ys, SqT K H a xs ∧ SqL K H b ys ∧ (i = xs.length ∨ (i < xs.length ∧ i = ys.length))⟩
theorem Inv.turnedL {X : Cx} {pins : List (Addr × Obj)} {σ : St} {H : Hp} {s : Shared} {h' : Heap} {t' : Nat} {ch : List Addr} (I : Inv X pins σ H s) (k : ∀ b o, b ∉ ch → s.heap.get? b = some o → h'.get? b = some o) (hf : ∀ b ∈ ch, FpOk X pins H b) : Inv X pins σ H { s with heap := h', toks := t' } := by
  have nit : ∀ b u, H b = some u → b ∉ ch := fun b u e z => by rw [(hf b z).1] at e; cases e
  refine I.step (g' := s.gens) (d' := s.drawn) (ch := ch) (fun b hb => ⟨(hf b hb).2.2.2.1, (hf b hb).2.1, (hf b hb).2.2.2.2.1, (hf b hb).2.2.2.2.2⟩) (fun b o _ _ hc e _ => k b o hc e) (fun b o _ _ hc e _ => ⟨o.slots, k b o hc e⟩) (fun _ _ _ _ n => n)
    (fun b o hc e => ⟨o, k b o hc e⟩) (fun _ _ e => e) (fun _ _ _ e => e) (fun b ps e => ⟨#[], by rw [e]; simp⟩) (fun m hm => ?_) (fun b u e => ?_) I.bare
  · obtain ⟨o, es, ep, ho, r⟩ := hm
    exact ⟨o, es, ep, k _ o (fun z => (hf _ z).2.1 rfl) ho, r⟩
  · refine (I.hok b u e).stay (fun c v hc q => k c v ?_ q) (fun _ q => q) fun _ _ q => q
    rcases hc with z | z
    · rw [z]; exact nit b u e
    · exact nit c _ z
/-- a zip's objects, laid one behind another from n on -/
def ZipSt (n a b : Nat) (i : Nat) (h : Heap) : Prop := IsZip h (n + 4) (n + 2) (n + 3) .none ∧ IsPair h (n + 2) (.ref n) (.ref (n + 1)) ∧ (∃ x y, IsPair h (n + 3) x y) ∧ h.IsTupleIter n a i ∧ h.IsListIter (n + 1) b i
abbrev zo1 (h : Heap) (a : Addr) : Heap := h.push { cls := .type "tuple_iterator", data := .fields #[.ref a, .int 0 0] }
abbrev zo2 (h : Heap) (a b : Addr) : Heap := (zo1 h a).push { cls := .type "list_iterator", data := .fields #[.ref b, .int 0 0] }
abbrev zo3 (h : Heap) (a b : Addr) : Heap := (zo2 h a b).push { cls := .type "tuple", data := .seq #[.ref h.objs.size, .ref (zo1 h a).objs.size] }
abbrev zo4 (h : Heap) (a b : Addr) : Heap := (zo3 h a b).push { cls := .type "tuple", data := .seq #[.none, .none] }
abbrev zo5 (h : Heap) (a b : Addr) : Heap := (zo4 h a b).push { cls := .type "zip", data := .fields #[.none, .bool false, .bool false, .ref (zo2 h a b).objs.size, .ref (zo3 h a b).objs.size] }
def iZip (K : PySem.W.Frag) (ta : TA) : TI := fun σ H R => ta σ H fun vs H1 => ∃ a b, vs = [.ref a, .ref b] ∧ (∃ xs, SqT K H1 a xs) ∧ (∃ ys, SqL K H1 b ys) ∧ R (Itz K a b) H1
end L2

namespace L2
open PySem PySem.Spec PyProof.Rows

/-! ### lists of pairs as tables -/
section
variable {κ : Type} [DecidableEq κ]
def valV (kvs : List (κ × V)) (k : κ) : Option V := (kvs.find? fun kv => decide (kv.1 = k)).map (·.2)
/-- in its place, or at the end -/
def putK (kvs : List (κ × V)) (k : κ) (v : V) : List (κ × V) :=
  if (kvs.any fun kv => decide (kv.1 = k)) = true then kvs.map (fun kv => if kv.1 = k then (kv.1, v) else kv) else kvs ++ [(k, v)]
def dropK (kvs : List (κ × V)) (k : κ) : List (κ × V) := kvs.filter fun kv => decide (kv.1 ≠ k)

theorem valV_pos {p : κ × V} {r : List (κ × V)} {k : κ} (e : p.1 = k) : valV (p :: r) k = some p.2 := by simp [valV, List.find?_cons, e]
theorem valV_neg {p : κ × V} {r : List (κ × V)} {k : κ} (e : ¬ p.1 = k) : valV (p :: r) k = valV r k := by simp [valV, List.find?_cons, e]
theorem valV_any (k : κ) : ∀ kvs : List (κ × V), (kvs.any fun kv => decide (kv.1 = k)) = (valV kvs k).isSome
  | [] => rfl
  | p :: r => by
    rw [List.any_cons]
    by_cases e : p.1 = k
    · simp only [valV_pos e, decide_eq_true e, Bool.true_or, Option.isSome_some]
    · rw [valV_neg e, decide_eq_false e, Bool.false_or]; exact valV_any k r
theorem valV_map (k j : κ) (y : V) : ∀ kvs : List (κ × V), valV (kvs.map fun kv => if kv.1 = k then (kv.1, y) else kv) j = (valV kvs j).map fun x => if j = k then y else x
  | [] => rfl
  | p :: r => by
    have ih := valV_map k j y r
    rw [List.map_cons]
    by_cases h : p.1 = k
    · rw [if_pos h]
      by_cases e : p.1 = j
      · rw [valV_pos (p := (p.1, y)) e, valV_pos e, Option.map_some, if_pos (e.symm.trans h)]
      · rw [valV_neg (p := (p.1, y)) e, valV_neg e, ih]
    · rw [if_neg h]
      by_cases e : p.1 = j
      · rw [valV_pos (p := p) e, valV_pos e, Option.map_some, if_neg (fun z => h (e.trans z))]
      · rw [valV_neg (p := p) e, valV_neg e, ih]
theorem valV_snoc (k j : κ) (y : V) : ∀ kvs : List (κ × V), valV kvs k = none → valV (kvs ++ [(k, y)]) j = if j = k then some y else valV kvs j
  | [], _ => by
    by_cases e : k = j
    · rw [if_pos e.symm]; exact valV_pos (p := (k, y)) e
    · rw [if_neg (fun z => e z.symm)]; exact valV_neg (p := (k, y)) e
  | p :: r, hn => by
    rw [List.cons_append]
    have hk : ¬ p.1 = k := fun z => by rw [valV_pos z] at hn; cases hn
    rw [valV_neg hk] at hn
    have ih := valV_snoc k j y r hn
    by_cases e : p.1 = j
    · rw [valV_pos e, valV_pos e, if_neg (fun z => hk (e.trans z))]
    · rw [valV_neg e, valV_neg e, ih]
theorem valV_put (kvs : List (κ × V)) (k j : κ) (y : V) : valV (putK kvs k y) j = if j = k then some y else valV kvs j := by
  unfold putK
  by_cases a : (kvs.any fun kv => decide (kv.1 = k)) = true
  · rw [if_pos a, valV_map]
    rw [valV_any] at a
    by_cases e : j = k
    · obtain ⟨x, hx⟩ := Option.isSome_iff_exists.mp a
      rw [if_pos e, e, hx, Option.map_some, if_pos rfl]
    · rw [if_neg e]
      cases valV kvs j with
      | none => rfl
      | some x => rw [Option.map_some, if_neg e]
  · rw [if_neg a]
    refine valV_snoc k j y kvs ?_
    rw [valV_any] at a
    cases q : valV kvs k with
    | none => rfl
    | some x => rw [q] at a; exact (a rfl).elim
theorem length_putK (kvs : List (κ × V)) (k : κ) (v : V) : (putK kvs k v).length ≤ kvs.length + 1 := by
  unfold putK
  split
  · rw [List.length_map]; omega
  · rw [List.length_append, List.length_cons, List.length_nil]; omega
theorem putK_new {kvs : List (κ × V)} {k : κ} (v : V) (h : valV kvs k = none) : putK kvs k v = kvs ++ [(k, v)] := by
  unfold putK
  rw [valV_any, h]
  exact if_neg (by decide)

theorem RelO.isSome_eq {o : Option V} {u : Option Value} (r : RelO o u) : o.isSome = u.isSome := by
  cases o with
  | none => cases u with
    | none => rfl
    | some _ => exact (show False from r).elim
  | some _ => cases u with
    | none => exact (show False from r).elim
    | some _ => rfl
theorem RelO.getD {o : Option V} {u : Option Value} {d : V} {d' : Value} (r : RelO o u) (rd : RelV d d') : RelV (o.getD d) (u.getD d') := by
  cases o with
  | none => cases u with
    | none => exact rd
    | some _ => exact (show False from r).elim
  | some _ => cases u with
    | none => exact (show False from r).elim
    | some _ => exact r

/-- raw tables of the same keys -/
theorem KV.val {kvs : List (κ × V)} {vs : List (κ × Value)} (r : KV kvs vs) (k : κ) : RelO (valV kvs k) (valueAt vs k) := by
  unfold KV at r
  induction r with
  | nil => exact True.intro
  | @cons p q ps qs h t ih =>
    obtain ⟨h1, h2⟩ := h
    by_cases e : p.1 = k
    · have e' : q.1 = k := h1.symm.trans e
      have b : valueAt (q :: qs) k = some q.2 := by simp [valueAt, List.find?_cons, e']
      rw [valV_pos e, b]; exact h2
    · have e' : ¬ q.1 = k := fun z => e (h1.trans z)
      have b : valueAt (q :: qs) k = valueAt qs k := by simp [valueAt, List.find?_cons, e']
      rw [valV_neg e, b]; exact ih
theorem KV.any {kvs : List (κ × V)} {vs : List (κ × Value)} (r : KV kvs vs) (k : κ) : (kvs.any fun kv => decide (kv.1 = k)) = vs.any fun kv => decide (kv.1 = k) := by
  unfold KV at r
  induction r with
  | nil => rfl
  | cons h t ih => rw [List.any_cons, List.any_cons, ih, h.1]
theorem KV.repl {kvs : List (κ × V)} {vs : List (κ × Value)} (r : KV kvs vs) (k : κ) {y : V} {u : Value} (ry : RelV y u) :
    KV (kvs.map fun kv => if kv.1 = k then (kv.1, y) else kv) (vs.map fun kv => if kv.1 = k then (kv.1, u) else kv) := by
  unfold KV at r ⊢
  induction r with
  | nil => exact .nil
  | @cons p q ps qs h t ih =>
    rw [List.map_cons, List.map_cons]
    refine .cons ?_ ih
    obtain ⟨h1, h2⟩ := h
    by_cases e : p.1 = k
    · rw [if_pos e, if_pos (h1.symm.trans e)]; exact ⟨h1, ry⟩
    · rw [if_neg e, if_neg (fun z => e (h1.trans z))]; exact ⟨h1, h2⟩
theorem KV.put {kvs : List (κ × V)} {vs : List (κ × Value)} (r : KV kvs vs) (k : κ) {y : V} {u : Value} (ry : RelV y u) : KV (putK kvs k y) (stored vs k u) := by
  unfold putK stored
  rw [r.any k]
  by_cases e : (vs.any fun kv => decide (kv.1 = k)) = true
  · rw [if_pos e, if_pos e]; exact r.repl k ry
  · rw [if_neg e, if_neg e]; exact Paired.snoc r ⟨rfl, ry⟩
theorem KV.length {kvs : List (κ × V)} {vs : List (κ × Value)} (r : KV kvs vs) : kvs.length = vs.length := Paired.length r
theorem dropK_le (kvs : List (κ × V)) (k : κ) : (dropK kvs k).length ≤ kvs.length := List.length_filter_le _ _
end


/-! ### a tracked dict, its keys ints and texts or tuples of these -/
theorem kV_is {P : Program} {w : World} {k : Key} {u : Value} (r : RelV (kV k) u) : (mixKind P w).is k u = true := by
  cases k with
  | inl i => obtain ⟨t, e⟩ := (show ∃ t, u = Value.int i t from r); subst e; exact mixKind_int P w i t
  | inr x => obtain ⟨t, e⟩ := (show ∃ t, u = Value.str x t from r); subst e; exact mixKind_str P w x t
theorem items_are {P : Program} {w : World} : ∀ {ks : List Key} {us : List Value}, Vals (ks.map kV) us → ItemsAre (mixKind P w) ks us
  | [], _, r => by rw [List.map_nil] at r; cases r; exact .nil
  | k :: ks, _, r => by
    rw [List.map_cons] at r
    cases r with
    | cons h t => exact .cons (kV_is h) (items_are t)

/-- raw entries of a dict with tuple keys -/
abbrev KT (H : Hp) : List (List Key × V) → List (List Key × Addr × Value) → Prop := Paired fun p q => p.1 = q.1 ∧ H q.2.1 = some (.tup (p.1.map kV)) ∧ RelV p.2 q.2.2
theorem KT.val {H : Hp} {kvs : List (List Key × V)} {xs : List (List Key × Addr × Value)} (r : KT H kvs xs) (k : List Key) : RelO (valV kvs k) ((atKey xs k).map (·.2)) := by
  induction r with
  | nil => exact True.intro
  | @cons p q ps qs h t ih =>
    obtain ⟨h1, _, h2⟩ := h
    by_cases e : p.1 = k
    · have e' : q.1 = k := h1.symm.trans e
      have b : atKey (q :: qs) k = some q.2 := by simp [atKey, List.find?_cons, e']
      rw [valV_pos e, b]; exact h2
    · have e' : ¬ q.1 = k := fun z => e (h1.trans z)
      have b : atKey (q :: qs) k = atKey qs k := by simp [atKey, List.find?_cons, e']
      rw [valV_neg e, b]; exact ih
theorem KT.repl {H : Hp} {kvs : List (List Key × V)} {xs : List (List Key × Addr × Value)} (r : KT H kvs xs) (k : List Key) {y : V} {u : Value} (ry : RelV y u) :
    KT H (kvs.map fun kv => if kv.1 = k then (kv.1, y) else kv) (xs.map (putAt k u)) := by
  induction r with
  | nil => exact .nil
  | @cons p q ps qs h t ih =>
    rw [List.map_cons, List.map_cons]
    refine .cons ?_ ih
    obtain ⟨h1, h2, h3⟩ := h
    unfold putAt
    by_cases e : p.1 = k
    · rw [if_pos e, if_pos (h1.symm.trans e)]; exact ⟨h1, h2, ry⟩
    · rw [if_neg e, if_neg (fun z => e (h1.trans z))]; exact ⟨h1, h2, h3⟩
theorem KT.put {H : Hp} {kvs : List (List Key × V)} {xs : List (List Key × Addr × Value)} (r : KT H kvs xs) (k : List Key) {b : Addr} {y : V} {u : Value} (hb : H b = some (.tup (k.map kV))) (ry : RelV y u) :
    KT H (putK kvs k y) (storedH xs k b u) := by
  have e : (kvs.any fun kv => decide (kv.1 = k)) = (atKey xs k).isSome := by
    rw [valV_any, (r.val k).isSome_eq, Option.isSome_map]
  unfold putK storedH
  rw [e]
  by_cases q : (atKey xs k).isSome = true
  · rw [if_pos q, if_pos q]; exact r.repl k ry
  · rw [if_neg q, if_neg q]; exact Paired.snoc r ⟨rfl, hb, ry⟩
theorem KT.keeps {H H' : Hp} {kvs : List (List Key × V)} {xs : List (List Key × Addr × Value)} (r : KT H kvs xs) (ht : ∀ b ys, H b = some (.tup ys) → H' b = some (.tup ys)) : KT H' kvs xs :=
  Paired.mapP r fun _ _ z => ⟨z.1, ht _ _ z.2.1, z.2.2⟩

section
variable {P : Program} {w : World} {H : Hp} {h : Heap} {a : Addr}
theorem rd_of {u : HO} (ok : HOk P w H h) (e : Rd H a u) : ObjOk P w H h a u := e.ok ok
theorem dk_rd {kvs : List (Key × V)} (ok : HOk P w H h) (e : Rd H a (.dK kvs)) : kvs.length ≤ sizeLine ∧ (a == sysModules) = false ∧ ∃ vs, KV kvs vs ∧ h.DictOf (mixKind P w) a vs :=
  show ObjOk P w H h a (.dK kvs) from rd_of ok e
theorem dk_of {kvs : List (Key × V)} (ok : HOk P w H h) (e : H a = some (.dK kvs)) : kvs.length ≤ sizeLine ∧ (a == sysModules) = false ∧ ∃ vs, KV kvs vs ∧ h.DictOf (mixKind P w) a vs := dk_rd ok (.inl e)
/-- a tracked tuple of ints and texts is a key -/
theorem key_of {ks : List Key} (ok : HOk P w H h) (e : H a = some (.tup (ks.map kV))) : (tupleKind (mixKind P w)).is h ks a := by
  obtain ⟨_, its, r, o, h1, h2, n, h3⟩ := (show ObjOk P w H h a (.tup (ks.map kV)) from ok a _ e)
  exact ⟨o, its.toArray, n, h1, h2, h3, by simpa using items_are r⟩
theorem dt_rd {kvs : List (List Key × V)} (ok : HOk P w H h) (e : Rd H a (.dT kvs)) : kvs.length ≤ sizeLine ∧ (a == sysModules) = false ∧
    ∃ xs, KT H kvs xs ∧ h.DictOfH (tupleKind (mixKind P w)) a xs := by
  obtain ⟨z, y, xs, r, o, es, ep, h1, h2, h3, h4, h5⟩ := (show ObjOk P w H h a (.dT kvs) from rd_of ok e)
  refine ⟨z, y, xs, r, o, es, ep, h1, h2, h3, h4, fun x hx => ?_, h5⟩
  have all : ∀ {l : List (List Key × V)} {m : List (List Key × Addr × Value)}, KT H l m → ∀ x ∈ m, (tupleKind (mixKind P w)).is h x.1 x.2.1 := by
    intro l m q
    induction q with
    | nil => intro x hx; exact nomatch hx
    | @cons p q ps qs hq t ih =>
      intro x hx
      rcases List.mem_cons.mp hx with e | hx
      · subst e
        exact key_of ok (by rw [← hq.1]; exact hq.2.1)
      · exact ih x hx
  exact all r x hx
theorem dt_of {kvs : List (List Key × V)} (ok : HOk P w H h) (e : H a = some (.dT kvs)) : kvs.length ≤ sizeLine ∧ (a == sysModules) = false ∧
    ∃ xs, KT H kvs xs ∧ h.DictOfH (tupleKind (mixKind P w)) a xs := dt_rd ok (.inl e)
end

/-- what the dict at a holds at the key y -/
def DGet (H : Hp) (a : Addr) (y : V) (r : Option V) : Prop :=
  (∃ kvs k, Rd H a (.dK kvs) ∧ y = kV k ∧ r = valV kvs k) ∨ ∃ kvs k b, Rd H a (.dT kvs) ∧ y = .ref b ∧ H b = some (.tup (k.map kV)) ∧ r = valV kvs k
/-- the heap behind a[y] = v -/
def DPut (H : Hp) (a : Addr) (y v : V) (H' : Hp) : Prop :=
  (∃ kvs k, H a = some (.dK kvs) ∧ y = kV k ∧ kvs.length < sizeLine ∧ H' = upd H a (.dK (putK kvs k v))) ∨
  ∃ kvs k b, H a = some (.dT kvs) ∧ y = .ref b ∧ H b = some (.tup (k.map kV)) ∧ kvs.length < sizeLine ∧ H' = upd H a (.dT (putK kvs k v))
theorem DGet.t {H : Hp} {a b : Addr} {kvs : List (List Key × V)} {k : List Key} (e : H a = some (.dT kvs)) (eb : H b = some (.tup (k.map kV))) : DGet H a (.ref b) (valV kvs k) := .inr ⟨kvs, k, b, .inl e, rfl, eb, rfl⟩
theorem DPut.k {H : Hp} {a : Addr} {kvs : List (Key × V)} {k : Key} {v : V} (e : H a = some (.dK kvs)) (hl : kvs.length < sizeLine) : DPut H a (kV k) v (upd H a (.dK (putK kvs k v))) := .inl ⟨kvs, k, e, rfl, hl, rfl⟩
theorem DPut.t {H : Hp} {a b : Addr} {kvs : List (List Key × V)} {k : List Key} {v : V} (e : H a = some (.dT kvs)) (eb : H b = some (.tup (k.map kV))) (hl : kvs.length < sizeLine) :
    DPut H a (.ref b) v (upd H a (.dT (putK kvs k v))) := .inr ⟨kvs, k, b, e, rfl, eb, hl, rfl⟩


section
variable {X : Cx} {pins : List (Addr × Obj)} {σ : St} {H : Hp} {s : Shared} {a : Addr} {y v : V} {u r : Value} {o : Option V} {A : Around} {E : Value → Shared → Prop}

theorem Inv.big (I : Inv X pins σ H s) : sysModules < s.heap.objs.size := by
  have h : mainGlobals < s.heap.objs.size := (I.mod.glob.keeps I.bk).lt
  exact Nat.lt_trans (by decide) h

/-- y in d -/
theorem d_in {Q : Value → Shared → Prop} (hu : A.units + 1 < cLine) (I : Inv X pins σ H s) (g : DGet H a y o) (ry : RelV y u) (h : ∀ s', Inv X pins σ H s' → Q (.bool o.isSome) s') :
    wpAny (model X.prog X.w) A (compareOp .In u (.ref a)) Q E s := by
  rcases g with ⟨kvs, k, e, ey, l⟩ | ⟨kvs, k, b, e, ey, eb, l⟩
  · subst ey
    obtain ⟨z, hd, vs, rel, dd⟩ := dk_rd I.hok e
    refine wpAny_in_of (kV_is ry) hd dd.mapOf ?_
    rw [← (rel.val k).isSome_eq, ← l]
    exact h _ (I.tok _)
  · subst ey
    cases (show u = Value.ref b from ry)
    obtain ⟨z, hd, xs, rel, dd⟩ := dt_rd I.hok e
    refine wpAny_in_heap (tupleKind_room_in1 hu) (key_of I.hok eb) hd dd ?_
    have q := (rel.val k).isSome_eq
    rw [Option.isSome_map] at q
    rw [← q, ← l]
    exact h _ (I.tok _)
/-- a dict's object is replaced -/
theorem d_write {h' : Heap} {t' : Nat} {ob : HO} (I : Inv X pins σ H s) (mu : Mut (H a)) (hs : Heap.SameBut a s.heap h') (he : ∃ q, h'.get? a = some q) (new : ObjOk X.prog X.w (upd H a ob) h' a ob) :
    Inv X pins σ (upd H a ob) { s with heap := h', toks := t' } :=
  I.write (x := a) (e := a) mu (.inl rfl) (fun b q hb z => (hs.2 b hb).trans z) he new
theorem dk_new {P : Program} {w : World} {H' : Hp} {h' : Heap} {kvs : List (Key × V)} {vs : List (Key × Value)} (z : kvs.length ≤ sizeLine) (hd : (a == sysModules) = false) (rel : KV kvs vs) (dd : h'.DictOf (mixKind P w) a vs) :
    ObjOk P w H' h' a (.dK kvs) := ⟨z, hd, vs, rel, dd⟩
/-- d[y] = v -/
theorem d_setItem {H' : Hp} {Q : Unit → Shared → Prop} (hu : A.units + 1 < cLine) (I : Inv X pins σ H s) (g : DPut H a y v H') (ry : RelV y u) (rv : RelV v r) (h : ∀ s', Inv X pins σ H' s' → Q () s') :
    wpAny (model X.prog X.w) A (setItem (.ref a) u r) Q E s := by
  rcases g with ⟨kvs, k, e, ey, l, eH⟩ | ⟨kvs, k, b, e, ey, eb, l, eH⟩
  · subst ey eH
    obtain ⟨z, hd, vs, rel, dd⟩ := dk_of I.hok e
    have hz : vs.length ≤ sizeLine := by rw [← rel.length]; exact z
    have hl : (putK kvs k v).length ≤ sizeLine := by have := length_putK kvs k v; omega
    refine wpAny_setItem_pairs (hsz := hz) (kV_is ry) dd fun h' dd' hs => h _ ?_
    have he : ∃ q, h'.get? a = some q := let ⟨q, _, _, hq, _⟩ := dd'; ⟨q, hq⟩
    exact d_write I (by rw [e]; exact True.intro) hs he (dk_new hl hd (rel.put k rv) dd')
  · subst ey eH
    cases (show u = Value.ref b from ry)
    obtain ⟨z, hd, xs, rel, dd⟩ := dt_of I.hok e
    have hz : xs.length ≤ sizeLine := by rw [← Paired.length rel]; exact z
    have hl : (putK kvs k v).length ≤ sizeLine := by have := length_putK kvs k v; omega
    refine wpAny_setItem_heap (hsz := hz) (tupleKind_room_in1 hu) (key_of I.hok eb) dd fun h' dd' hs => h _ ?_
    obtain ⟨q, es, ep, hq, h2, h3, h4, _, h5⟩ := dd'
    refine d_write I (by rw [e]; exact True.intro) hs ⟨q, hq⟩ ⟨hl, hd, _, (rel.put k eb rv).keeps fun c ys ec => ?_, q, es, ep, hq, h2, h3, h4, h5⟩
    rw [upd_ne (ne_of ec e (fun z => nomatch z))]
    exact ec
end

section
variable {X : Cx} {pins : List (Addr × Obj)} {σ : St} {H : Hp} {s : Shared} {a : Addr} {kvs : List (Key × V)} {k : Key} {u : Value} {A : Around} {E : Value → Shared → Prop}
/-- len(d) -/
theorem d_len {Q : Value → Shared → Prop} (I : Inv X pins σ H s) (e : Rd H a (.dK kvs)) (h : ∀ t s', Inv X pins σ H s' → Q (.int kvs.length t) s') : wpAny (model X.prog X.w) A (call (.builtin "len") [.ref a]) Q E s := by
  obtain ⟨z, hd, vs, rel, dd⟩ := dk_rd I.hok e
  refine call_len_dict hd dd (by rw [← rel.length]; rw [sizeLine_eq] at z; omega) ?_
  rw [← rel.length]
  exact h _ _ (I.tok _)
end


/-! ### readings and rules -/
/-- the element of a subscription, not a slice -/
def NoSl (i : Expr) : Prop := ∀ ov iv, subscripted i false ov iv = operate [ov, iv] (getItem ov iv)
/-- d[y] -/
def tDGet (td ty : TE) : TE := fun σ H Q => td σ H fun x H1 => ty σ H1 fun y H2 => ∃ a v, x = .ref a ∧ DGet H2 a y (some v) ∧ Q v H2
/-- y in d, y not in d -/
def tDIn (ty td : TE) : TE := fun σ H Q => ty σ H fun y H1 => td σ H1 fun x H2 => ∃ a o, x = .ref a ∧ DGet H2 a y o ∧ Q (.bl o.isSome) H2
def tDNotIn (ty td : TE) : TE := fun σ H Q => ty σ H fun y H1 => td σ H1 fun x H2 => ∃ a o, x = .ref a ∧ DGet H2 a y o ∧ Q (.bl (!o.isSome)) H2
/-- d[y] = v -/
def sDPut (td ty tv : TE) : TS := fun D σ H => tv σ H fun v H1 => td σ H1 fun x H2 => ty σ H2 fun y H3 => ∃ a H4, x = .ref a ∧ DPut H3 a y v H4 ∧ D.nx σ H4
/-- d[y] op= v -/
def sDAug (td ty tv : TE) (rd : V → V → Hp → VK → Prop) : TS := fun D σ H => td σ H fun x H1 => ty σ H1 fun y H2 => ∃ a v, x = .ref a ∧ DGet H2 a y (some v) ∧
  tv σ H2 fun y2 H3 => rd v y2 H3 fun z H4 => ∃ H5, DPut H4 a y z H5 ∧ D.nx σ H5
/-- del d[y] -/
def sDDel (td ty : TE) : TS := fun D σ H => td σ H fun x H1 => ty σ H1 fun y H2 => ∃ a kvs k, x = .ref a ∧ H2 a = some (.dK kvs) ∧ y = kV k ∧ (valV kvs k).isSome = true ∧ D.nx σ (upd H2 a (.dK (dropK kvs k)))

section
variable {X : Cx} {o i e value : Expr} {pos pos' tpos : Pos} {td ty tv : TE}
theorem pc_din (hu : X.A.units + 1 < cLine) (hi : PE X i ty) (ho : PE X o td) : PC X .In i o (tDIn ty td) := by
  intro pins s σ H Q I h
  refine thn (hi pins s σ H _ I h) fun iv s1 ⟨y, H1, I1, ry, q1⟩ => thn (ho pins s1 σ H1 _ I1 q1) fun u s2 ⟨x, H2, I2, rx, a, ov, ex, g, q2⟩ => ?_
  subst ex
  obtain rfl : u = Value.ref a := rx
  exact d_in hu I2 g ry fun s3 I3 => ⟨.bl ov.isSome, H2, I3, rfl, q2⟩
theorem ps_dput (hu : X.A.units + 1 < cLine) (ho : PE X o td) (hi : PE X i ty) (hv : PE X value tv) (hs : swapsWith value (some (.Subscript o i pos')) pos.line X.env = pure false) :
    PS X (.Assign [.Subscript o i pos'] value pos) (sDPut td ty tv) := by
  intro pins s σ H D I h
  refine wpAny_Assign_Subscript (thn (hv pins s σ H _ I h) fun r s1 ⟨v, H1, I1, rv, q1⟩ => thn (ho pins s1 σ H1 _ I1 q1) fun u s2 ⟨x, H2, I2, rx, q2⟩ => thn (hi pins s2 σ H2 _ I2 q2) fun iv s3 ⟨y, H3, I3, ry, a, H4, ex, g, q3⟩ => ?_) hs
  subst ex
  obtain rfl : u = Value.ref a := rx
  exact d_setItem hu I3 g ry rv fun s4 I4 => ⟨σ, H4, I4, q3⟩
end


/-! ### displays -/
theorem dk_empty {P : Program} {w : World} {H : Hp} (h : Heap) (hb : sysModules < h.objs.size) : ObjOk P w H (h.push { cls := .type "dict", data := .dict #[] }) h.objs.size (.dK []) :=
  ⟨Nat.zero_le _, beq_eq_false_iff_ne.mpr (Ne.symm (Nat.ne_of_lt hb)), [], .nil, Heap.DictOf.new h⟩
theorem dt_empty {P : Program} {w : World} {H : Hp} (h : Heap) (hb : sysModules < h.objs.size) : ObjOk P w H (h.push { cls := .type "dict", data := .dict #[] }) h.objs.size (.dT []) :=
  ⟨Nat.zero_le _, beq_eq_false_iff_ne.mpr (Ne.symm (Nat.ne_of_lt hb)), [], .nil, _, #[], 0, Heap.get?_push_size _ rfl, ⟨rfl, rfl, rfl⟩, rfl, rfl, List.nodup_nil⟩
/-- {}, to be a dict of the kind that is wanted -/
def tDNewK : TE := fun _ H Q => ∀ p, H p = none → Q (.ref p) (upd H p (.dK []))
def tDNewT : TE := fun _ H Q => ∀ p, H p = none → Q (.ref p) (upd H p (.dT []))
section
variable {X : Cx} {pos : Pos}
theorem pe_dnewK : PE X (.Dict [] [] pos) tDNewK := fun pins s σ H Q I h =>
  wpAny_Dict_empty ⟨.ref s.heap.objs.size, _, I.laid (a := s.heap.objs.size) (o := .dK []) (t' := s.toks) (fun _ _ q => Heap.get?_push_of_some _ q) (Nat.le_refl _) (dk_empty s.heap I.big), rfl, h _ (I.hok.fresh (Nat.le_refl _))⟩
theorem pe_dnewT : PE X (.Dict [] [] pos) tDNewT := fun pins s σ H Q I h =>
  wpAny_Dict_empty ⟨.ref s.heap.objs.size, _, I.laid (a := s.heap.objs.size) (o := .dT []) (t' := s.toks) (fun _ _ q => Heap.get?_push_of_some _ q) (Nat.le_refl _) (dt_empty s.heap I.big), rfl, h _ (I.hok.fresh (Nat.le_refl _))⟩
end

/-- the pairs of a display, from the left -/
def tPairs : List (TE × TE) → St → Hp → (List (V × V) → Hp → Prop) → Prop
  | [], _, H, Q => Q [] H
  | (tk, tv) :: r, σ, H, Q => tk σ H fun x H1 => tv σ H1 fun y H2 => tPairs r σ H2 fun ps H3 => Q ((x, y) :: ps) H3
abbrev VV : List (V × V) → List (Value × Value) → Prop := Paired fun p q => RelV p.1 q.1 ∧ RelV p.2 q.2
def PPs (X : Cx) (pos : Pos) (keys : List (Option Expr)) (values : List Expr) (trs : List (TE × TE)) : Prop :=
  ∀ (pins : List (Addr × Obj)) (s : Shared) (σ : St) (H : Hp) (Q : List (V × V) → Hp → Prop), Inv X pins σ H s → tPairs trs σ H Q →
    wpAny (model X.prog X.w) X.A (evalPairs (pairTrees keys values X.env pos)) (fun vs s' => ∃ ps H', Inv X pins σ H' s' ∧ VV ps vs ∧ Q ps H') X.xe s
def mergeK (kvs more : List (Key × V)) : List (Key × V) := more.foldl (fun acc kv => putK acc kv.1 kv.2) kvs
/-- {k: v, ..} with keys ints and texts; the new dict stands empty while the pairs are made -/
def tDisp (trs : List (TE × TE)) : TE := fun σ H Q => ∀ p, H p = none → tPairs trs σ (upd H p (.dK [])) fun ps H2 => H2 p = some (.dK []) ∧ ∃ kvs : List (Key × V), ps = kvs.map (fun kv => (kV kv.1, kv.2)) ∧ kvs.length ≤ 15 ∧ Q (.ref p) (upd H2 p (.dK (mergeK [] kvs)))
/-! ### methods -/
/-- a method call o.m(e) of a built-in, with one argument: what must be seen of the text -/
structure M1 (X : Cx) (o : Expr) (m : Str) (apos : Pos) (e : Expr) (cpos : Pos) : Prop where
  base : attributeBase o m X.env (eval o X.env) = eval o X.env
  few : ((backTo cpos (starEach [e] X.env)).all (fun x => !x.1) && (backToKw cpos (keywordEach [] X.env)).all (fun x => x.1.isSome)
    && decide (([e] : List Expr).length + ([] : List Keyword).length + (if ([] : List Keyword).isEmpty then 0 else 1) < 30)) = true
  line : (apos.endLine == cpos.line) = true
  trees : backTo cpos (starEach [e] X.env) = [(false, eval e X.env)]
structure M2 (X : Cx) (o : Expr) (m : Str) (apos : Pos) (e f : Expr) (cpos : Pos) : Prop where
  base : attributeBase o m X.env (eval o X.env) = eval o X.env
  few : ((backTo cpos (starEach [e, f] X.env)).all (fun x => !x.1) && (backToKw cpos (keywordEach [] X.env)).all (fun x => x.1.isSome)
    && decide (([e, f] : List Expr).length + ([] : List Keyword).length + (if ([] : List Keyword).isEmpty then 0 else 1) < 30)) = true
  line : (apos.endLine == cpos.line) = true
  trees : backTo cpos (starEach [e, f] X.env) = [(false, eval e X.env), (false, eval f X.env)]

/-- a is a dict, whatever its keys -/
def IsD (H : Hp) (a : Addr) : Prop := (∃ kvs, Rd H a (.dK kvs)) ∨ ∃ kvs, Rd H a (.dT kvs)
theorem isD_at {X : Cx} {pins : List (Addr × Obj)} {σ : St} {H : Hp} {s : Shared} {a : Addr} (I : Inv X pins σ H s) (d : IsD H a) :
    s.TypeIs (.ref a) "dict" ∧ (∀ b, Value.ref a = .ref b → ∃ ob, s.heap.get? b = some ob ∧ ob.dict = none) ∧ (a == sysModules) = false := by
  rcases d with ⟨kvs, e⟩ | ⟨kvs, e⟩
  · obtain ⟨_, hd, vs, _, dd⟩ := dk_rd I.hok e
    refine ⟨dd.typeIs, fun b q => ?_, hd⟩
    cases q
    obtain ⟨ob, _, _, h1, h2, _⟩ := dd
    exact ⟨ob, h1, h2.2.1⟩
  · obtain ⟨_, hd, xs, _, dd⟩ := dt_rd I.hok e
    refine ⟨dd.typeIs, fun b q => ?_, hd⟩
    cases q
    obtain ⟨ob, _, _, h1, h2, _⟩ := dd
    exact ⟨ob, h1, h2.2.1⟩

section
variable {X : Cx} {pins : List (Addr × Obj)} {σ : St} {H : Hp} {s : Shared} {a : Addr} {y d : V} {u r : Value} {o : Option V} {A : Around} {E : Value → Shared → Prop}
/-- d.get(y, x) -/
theorem d_get2 {Q : Value → Shared → Prop} (hu : A.units + 1 < cLine) (I : Inv X pins σ H s) (g : DGet H a y o) (ry : RelV y u) (rd : RelV d r) (h : ∀ w' s', Inv X pins σ H s' → RelV (o.getD d) w' → Q w' s') :
    wpAny (model X.prog X.w) A (call (.builtin "dict.get") [.ref a, u, r]) Q E s := by
  rcases g with ⟨kvs, k, e, ey, l⟩ | ⟨kvs, k, b, e, ey, eb, l⟩
  · subst ey
    obtain ⟨z, hd, vs, rel, dd⟩ := dk_rd I.hok e
    refine call_meetsIn PySem.F.slot_dict_get dd.typeIs PySem.F.entry_dict_get (PySem.F.args_dict_get_3 _ _ _) (meets_dict_get_default (mixKind X.prog X.w) a (kV_is ry) hd r) ⟨_, dd.mapOf, h _ _ (I.tok _) ?_⟩
    rw [l]
    exact (rel.val k).getD rd
  · subst ey
    cases (show u = Value.ref b from ry)
    obtain ⟨z, hd, xs, rel, dd⟩ := dt_rd I.hok e
    refine call_meetsIn PySem.F.slot_dict_get dd.typeIs PySem.F.entry_dict_get (PySem.F.args_dict_get_3 _ _ _) (meetsH_dict_get_default (tupleKind (mixKind X.prog X.w)) a b hd r) ⟨tupleKind_room_in1 hu, k, xs, key_of I.hok eb, dd, h _ _ (I.tok _) ?_⟩
    rw [l]
    exact (rel.val k).getD rd
end

def tDGet1 (td ty : TE) : TE := fun σ H Q => td σ H fun x H1 => ∃ a, x = .ref a ∧ IsD H1 a ∧ ty σ H1 fun y H2 => ∃ o, DGet H2 a y o ∧ Q (o.getD .non) H2
def tDGet2 (td ty tx : TE) : TE := fun σ H Q => td σ H fun x H1 => ∃ a, x = .ref a ∧ IsD H1 a ∧ ty σ H1 fun y H2 => tx σ H2 fun z H3 => ∃ o, DGet H3 a y o ∧ Q (o.getD z) H3
/-- d.pop(k): there; d.pop(k, x): there or not -/
def tDPop1 (td ty : TE) : TE := fun σ H Q => td σ H fun x H1 => ∃ a, x = .ref a ∧ IsD H1 a ∧ ty σ H1 fun y H2 => ∃ kvs k v, H2 a = some (.dK kvs) ∧ y = kV k ∧ valV kvs k = some v ∧ Q v (upd H2 a (.dK (dropK kvs k)))
def tDPop2 (td ty tx : TE) : TE := fun σ H Q => td σ H fun x H1 => ∃ a, x = .ref a ∧ IsD H1 a ∧ ty σ H1 fun y H2 => tx σ H2 fun z H3 => ∃ kvs k, H3 a = some (.dK kvs) ∧ y = kV k ∧
  (∀ v, valV kvs k = some v → Q v (upd H3 a (.dK (dropK kvs k)))) ∧ (valV kvs k = none → Q z H3)
section
variable {X : Cx} {o e f : Expr} {apos cpos : Pos} {td ty tx : TE}
theorem pe_dget2 (hu : X.A.units + 1 < cLine) (ho : PE X o td) (he : PE X e ty) (hf : PE X f tx) (m : M2 X o "get" apos e f cpos) : PE X (.Call (.Attribute o "get" apos) [e, f] [] cpos) (tDGet2 td ty tx) := by
  intro pins s σ H Q I h
  refine wpAny_Call_method m.base m.few m.line PySem.F.plainAttrs_dict PySem.F.slot_dict_get PySem.F.type_dict_get (thn (ho pins s σ H _ I h) fun u s1 ⟨x, H1, I1, rx, a, ex, d, q1⟩ => ?_)
  subst ex
  obtain rfl : u = Value.ref a := rx
  obtain ⟨t1, t2, _⟩ := isD_at I1 d
  refine ⟨t1, t2, ?_⟩
  rw [m.trees]
  refine Calls.callWith_builtin rfl (Calls.evalArgs_plain (Calls.spliced_cons (thn (he pins s1 σ H1 _ I1 q1) fun iv s2 ⟨y, H2, I2, ry, q2⟩ =>
    Calls.spliced_cons (thn (hf pins s2 σ H2 _ I2 q2) fun fv s3 ⟨z, H3, I3, rz, ov, g, q3⟩ => Calls.spliced_nil ?_))))
  exact d_get2 hu I3 g ry rz fun w' s4 I4 rw' => ⟨_, H3, I4, rw', q3⟩
end

/-! ### dict(d): a copy -/
section
variable {X : Cx} {pins : List (Addr × Obj)} {σ : St} {H : Hp} {s : Shared} {a : Addr} {kvs : List (Key × V)} {A : Around} {E : Value → Shared → Prop}
end


section
variable {X : Cx} {pins : List (Addr × Obj)} {σ : St} {H : Hp} {s : Shared} {a : Addr} {y : V} {u : Value} {A : Around} {E : Value → Shared → Prop}
end
end L2

namespace L2
open PySem PySem.Spec PyProof.Rows
/-! ### sorted -/
theorem vals_of_ints : ∀ {us : List Value} {ns : List Int}, IntsAre us ns → Vals (ns.map V.int) us
  | _, _, .nil => .nil
  | _, _, .cons _ _ h => .cons ⟨_, rfl⟩ (vals_of_ints h)
theorem lst_ok {P : Program} {w : World} {H : Hp} {h : Heap} {a : Addr} {xs : List V} {its : List Value} {e : Nat} (hv : Vals xs its) (hz : xs.length ≤ sizeLine) (ho : h.get? a = some (seqObj "list" its.toArray e)) : ObjOk P w H h a (.lst xs) := ⟨hz, its, e, hv, ho⟩
section
variable {X : Cx}
def rSortS (K : PySem.W.Frag) : List V → Hp → VK → Prop := fun xs H Q => ∃ a, ∃ ss : List Str, xs = [.ref a] ∧ SqL K H a (ss.map V.str) ∧ ss.length < 64 ∧ ∀ (p : Addr) (ss' : List Str), ss'.Perm ss → sortedS ss' = true → H p = none → Q (.ref p) (upd H p (.lst (ss'.map V.str)))
def rSortI (K : PySem.W.Frag) : List V → Hp → VK → Prop := fun xs H Q => ∃ a, ∃ ns : List Int, xs = [.ref a] ∧ SqL K H a (ns.map V.int) ∧ ns.length < 64 ∧ ∀ (p : Addr) (ns' : List Int), ns'.Perm ns → ns'.Pairwise (· ≤ ·) → H p = none → Q (.ref p) (upd H p (.lst (ns'.map V.int)))
def rSortDS : List V → Hp → VK → Prop := fun xs H Q => ∃ a kvs, ∃ ss : List Str, xs = [.ref a] ∧ H a = some (.dK kvs) ∧ kvs.map (·.1) = ss.map Sum.inr ∧ kvs.length < 64 ∧ ∀ (p : Addr) (ss' : List Str), ss'.Perm ss → sortedS ss' = true → H p = none → Q (.ref p) (upd H p (.lst (ss'.map V.str)))
def rSortDI : List V → Hp → VK → Prop := fun xs H Q => ∃ a kvs, ∃ ns : List Int, xs = [.ref a] ∧ H a = some (.dK kvs) ∧ kvs.map (·.1) = ns.map Sum.inl ∧ kvs.length < 64 ∧ ∀ (p : Addr) (ns' : List Int), ns'.Perm ns → ns'.Pairwise (· ≤ ·) → H p = none → Q (.ref p) (upd H p (.lst (ns'.map V.int)))
end
end L2

namespace L2
open PySem PySem.Spec PyProof.Rows
variable {X : Cx}
/-! ### xs[::-1] of a list -/
def tRev (K : PySem.W.Frag) (te : TE) (tk : TO) : TE := fun σ H Q => te σ H fun x H1 => tk σ H1 fun st H2 => st = some (-1) ∧ ∃ a xs, x = .ref a ∧ SqL K H2 a xs ∧ ∀ p, H2 p = none → Q (.ref p) (upd H2 p (.lst xs.reverse))
/-! ### list(range(a, b)) -/
def tListRng (ta : TA) : TE := fun σ H Q => ta σ H fun vs H1 => ∃ i j : Int, vs = [.int i, .int j] ∧ (-(2 ^ 62) ≤ i ∧ i < 2 ^ 62 ∧ -(2 ^ 62) ≤ j ∧ j < 2 ^ 62) ∧ (j - i).toNat ≤ 1000 ∧ ∀ p, H1 p = none → Q (.ref p) (upd H1 p (.lst (rngV i (j - i).toNat)))
/-! ### list(d.values()) -/
def tListVals (td : TE) : TE := fun σ H Q => td σ H fun x H1 => ∃ a kvs, x = .ref a ∧ H1 a = some (.dK kvs) ∧ ∀ p, H1 p = none → Q (.ref p) (upd H1 p (.lst (kvs.map (·.2))))
end L2

namespace L2
open PySem PySem.Spec PyProof.Rows
/-- the i-th items of a tuple and of a list, in a new tuple -/
def Itz2 (K : PySem.W.Frag) (a b : Addr) : It :=
  ⟨fun i H => ∃ xs ys, SqT K H a xs ∧ SqT K H b ys ∧ i < xs.length ∧ i < ys.length,
   fun i H v H' => ∃ T, H T = none ∧ v = .ref T ∧ ∀ xs ys, SqT K H a xs → SqT K H b ys → ∃ x y, xs[i]? = some x ∧ ys[i]? = some y ∧ H' = upd H T (.tup [x, y]),
   fun i H => ∃ xs ys, SqT K H a xs ∧ SqT K H b ys ∧ (i = xs.length ∨ (i < xs.length ∧ i = ys.length))⟩
/-- a zip's objects, laid one behind another from n on -/
def ZipSt2 (n a b : Nat) (i : Nat) (h : Heap) : Prop := IsZip h (n + 4) (n + 2) (n + 3) .none ∧ IsPair h (n + 2) (.ref n) (.ref (n + 1)) ∧ (∃ x y, IsPair h (n + 3) x y) ∧ h.IsTupleIter n a i ∧ h.IsTupleIter (n + 1) b i
abbrev yo1 (h : Heap) (a : Addr) : Heap := h.push { cls := .type "tuple_iterator", data := .fields #[.ref a, .int 0 0] }
abbrev yo2 (h : Heap) (a b : Addr) : Heap := (yo1 h a).push { cls := .type "tuple_iterator", data := .fields #[.ref b, .int 0 0] }
abbrev yo3 (h : Heap) (a b : Addr) : Heap := (yo2 h a b).push { cls := .type "tuple", data := .seq #[.ref h.objs.size, .ref (yo1 h a).objs.size] }
abbrev yo4 (h : Heap) (a b : Addr) : Heap := (yo3 h a b).push { cls := .type "tuple", data := .seq #[.none, .none] }
abbrev yo5 (h : Heap) (a b : Addr) : Heap := (yo4 h a b).push { cls := .type "zip", data := .fields #[.none, .bool false, .bool false, .ref (yo2 h a b).objs.size, .ref (yo3 h a b).objs.size] }
def iZip2 (K : PySem.W.Frag) (ta : TA) : TI := fun σ H R => ta σ H fun vs H1 => ∃ a b, vs = [.ref a, .ref b] ∧ (∃ xs, SqT K H1 a xs) ∧ (∃ ys, SqT K H1 b ys) ∧ R (Itz2 K a b) H1
end L2

namespace L2
open PySem PySem.Spec PyProof.Rows
variable {X : Cx}
/-! ### list(d): the keys of a dict, texts -/
def rListD : List V → Hp → VK → Prop := fun xs H Q => ∃ a kvs, ∃ ss : List Str, xs = [.ref a] ∧ H a = some (.dK kvs) ∧ kvs.map (·.1) = ss.map Sum.inr ∧ ∀ p, H p = none → Q (.ref p) (upd H p (.lst (ss.map V.str)))
/-! ### list(range(a, b, c)) -/
def tListRng3 (ta : TA) : TE := fun σ H Q => ta σ H fun vs H1 => ∃ i j c : Int, vs = [.int i, .int j, .int c] ∧ (-(2 ^ 20) ≤ i ∧ i < 2 ^ 20 ∧ -(2 ^ 20) ≤ j ∧ j < 2 ^ 20 ∧ 1 ≤ c ∧ c < 2 ^ 20) ∧ (j - i) / c ≤ 900 ∧
  ∀ p (ms : List Int), (∀ x ∈ ms, i ≤ x ∧ x < j) → (ms.length : Int) ≤ max 0 ((j - i - 1) / c + 1) → H1 p = none → Q (.ref p) (upd H1 p (.lst (ms.map V.int)))
end L2

namespace L2
open PySem PySem.Spec PyProof.Rows
variable {X : Cx}
/-! ### a dict walked: it is held still from then on -/
/-- the keys of a dict that is held still -/
def Itd (d : Addr) (ob : Obj) (kvs : List (Key × V)) : It :=
  ⟨fun i H => H d = some (.frz ob (.dK kvs)) ∧ i < kvs.length, fun i H v H' => H' = H ∧ ∃ kv, kvs[i]? = some kv ∧ v = kV kv.1, fun i H => H d = some (.frz ob (.dK kvs)) ∧ kvs.length ≤ i⟩
def iDict (tl : TE) : TI := fun σ H R => tl σ H fun x H1 => ∃ d kvs, x = .ref d ∧ H1 d = some (.dK kvs) ∧ ∀ ob, R (Itd d ob kvs) (upd H1 d (.frz ob (.dK kvs)))
end L2

namespace L2
open PySem PySem.Spec PyProof.Rows PySem.W
/-! ### try, with the names kept -/
/-- an exception of a callee that is called while the names are σ -/
def PassesAt (CX : CXT) (X : Cx) (σ : St) (E : XK) : Prop := ∀ (pins : List (Addr × Obj)) (H : Hp) (s : Shared) (e : Value) (s' : Shared), Inv X pins σ H s → CX X.stack H s E e s' → X.xe e s'
section
variable {X : Cx}
/-- as tTry, of a body that changes no name: the others stay -/
def tTryS (K : Frag) (i j : Nat) (Dc : Addr) (tb : St → XK → TS) : TS := fun D σ H => tb σ (fun cls dd H' => ∃ C, cls = .ref C ∧ ExK K C ∧ subIn K (.ref C) (.ref Dc) = some true ∧ ∀ a, H' a = none → D.nx (((σ.set i (some (.ref a))).set j (some (.ref a))).set i none) (upd H' a (excD a C dd))) D σ H
end
end L2
namespace L2
open PySem PySem.Spec PyProof.Rows
variable {X : Cx}
/-! ### a dict that is held still, read -/
def rSortDSR : List V → Hp → VK → Prop := fun xs H Q => ∃ a kvs, ∃ ss : List Str, xs = [.ref a] ∧ Rd H a (.dK kvs) ∧ kvs.map (·.1) = ss.map Sum.inr ∧ kvs.length < 64 ∧ ∀ (p : Addr) (ss' : List Str), ss'.Perm ss → sortedS ss' = true → H p = none → Q (.ref p) (upd H p (.lst (ss'.map V.str)))
def tListValsR (td : TE) : TE := fun σ H Q => td σ H fun x H1 => ∃ a kvs, x = .ref a ∧ Rd H1 a (.dK kvs) ∧ ∀ p, H1 p = none → Q (.ref p) (upd H1 p (.lst (kvs.map (·.2))))
end L2

namespace L2
open PySem PySem.Spec PyProof.Rows
/-! ### heaps that grow, in which dicts may come to be held still -/
def Fz (H H' : Hp) : Prop := ∀ b o, H b = some o → H' b = some o ∨ ∃ ob kvs, o = .dK kvs ∧ H' b = some (.frz ob (.dK kvs))
/-- d is held still, all else is as it was -/
def Hld (d : Addr) (ob : Obj) (kvs : List (Key × V)) (H H' : Hp) : Prop := H' d = some (.frz ob (.dK kvs)) ∧ (∀ b, b ≠ d → H' b = H b) ∧ (H d = some (.dK kvs) ∨ H d = some (.frz ob (.dK kvs)))
section
variable {X : Cx}
/-- a dict walked that may be held still already -/
def iDictR (tl : TE) : TI := fun σ H R => tl σ H fun x H1 => ∃ d kvs, x = .ref d ∧ Rd H1 d (.dK kvs) ∧ ∀ ob H2, Hld d ob kvs H1 H2 → R (Itd d ob kvs) H2
/-! ### dict(d), isinstance(d, dict) -/
def rDictD : List V → Hp → VK → Prop := fun xs H Q => ∃ a kvs, xs = [.ref a] ∧ Rd H a (.dK kvs) ∧ ∀ p, H p = none → Q (.ref p) (upd H p (.dK kvs))
/-! ### == and != of dicts that tell the same -/
/-- each value of the one is told by the other -/
def DDeq (K : PySem.W.Frag) (H : Hp) (ka kb : List (Key × V)) : Prop := ka.length = kb.length ∧ ∀ kv ∈ ka, ∃ v' d, valV kb kv.1 = some v' ∧ Dv K H 30 kv.2 d ∧ Dv K H 30 v' d
def rNeDD (K : PySem.W.Frag) : R2 := fun x y H Q => ∃ a b ka kb, x = .ref a ∧ y = .ref b ∧ Rd H a (.dK ka) ∧ Rd H b (.dK kb) ∧ DDeq K H ka kb ∧ Q (.bl false) H
def rEqDD (K : PySem.W.Frag) : R2 := fun x y H Q => ∃ a b ka kb, x = .ref a ∧ y = .ref b ∧ Rd H a (.dK ka) ∧ Rd H b (.dK kb) ∧ DDeq K H ka kb ∧ Q (.bl true) H
end
end L2

namespace L2
open PySem PySem.Spec PyProof.Rows
/-! ### != of two lists of dicts that tell the same, at one program -/
/-- the two are equal, at this program -/
def EqIn (P : Program) (w : World) (A : Around) (s : Shared) (y x : Value) : Prop := ∀ (E : Value → Shared → Prop) (Q : Bool → Shared → Prop), Q true s → wpAny (model P w) A (eqBool y x) Q E s
section
open AutoSeq1 MeetsSeq MeetsSeq2 MeetsSeq3 SeqAt
variable {P : Program} {w : World}
end
section
variable {X : Cx}
def rNeLD (K : PySem.W.Frag) : R2 := fun x y H Q => ∃ a b xs ys, x = .ref a ∧ y = .ref b ∧ SqL K H a xs ∧ SqL K H b ys ∧ xs.length = ys.length ∧
  (∀ (j : Nat) x y, xs[j]? = some x → ys[j]? = some y → ∃ da db ka kb, x = .ref da ∧ y = .ref db ∧ Rd H da (.dK ka) ∧ Rd H db (.dK kb) ∧ DDeq K H ka kb) ∧ Q (.bl false) H
end
end L2

namespace HT
open PySem PyProof.Rows
/-- t < u of tuples of texts -/
def lexLtS : List Str → List Str → Bool
  | [], [] => false
  | [], _ :: _ => true
  | _ :: _, [] => false
  | x :: xs, y :: ys => if x = y then lexLtS xs ys else decide (x.cps.toList < y.cps.toList)
section
open PySem.SeqAt
open PySem.AutoSeq1 (wpAny_loadPart')
open PySem.MeetsSeq PySem.MeetsSeq2 PySem.MeetsSeq3

end

section
variable {prog : Program} {w : World} {A : Around} {E : Value → Shared → Prop} {s : Shared}

end
end HT
namespace L2
open PySem PySem.Spec PyProof.Rows
section
variable {X : Cx}
def rLtTS (K : PySem.W.Frag) : R2 := fun x y H Q => ∃ a b ns ms, x = .ref a ∧ y = .ref b ∧ SqT K H a (ns.map V.str) ∧ SqT K H b (ms.map V.str) ∧ Q (.bl (HT.lexLtS ns ms)) H
end
end L2

namespace HT
open PySem PySem.Spec PyProof.Rows
section
variable {prog : Program} {w : World} {A : Around} {E : Value → Shared → Prop} {s : Shared}
/-- () + u is u -/
theorem cat_tup0 {t b : Addr} {ws : List Value} {Q : Value → Shared → Prop} (ht : IsTup s.heap t #[]) (hb : IsTup s.heap b ws.toArray) (h : Q (.ref b) s) : wpAny (model prog w) A (binaryOp .Add (.ref t) (.ref b)) Q E s := by
  obtain ⟨⟨cls, dd, data, sl⟩, ho, hc, n, hd⟩ := id ht
  obtain ⟨⟨cls2, dd2, data2, sl2⟩, ho2, hc2, n2, hd2⟩ := id hb
  simp only at hc hd hc2 hd2
  subst hc hd hc2 hd2
  exact concat_meets ⟨_, ho, rfl⟩ ⟨_, ho2, rfl⟩ noFill_tuple_add seq_tuple_add PySem.F.slot_tuple_add PySem.F.entry_tuple_add (PySem.F.args_tuple_add_2 _ _)
      (tuple_addW0 t b #[] ws.toArray n n2 dd dd2 sl sl2 (by simp)) ⟨ho, ho2, h⟩
end
end HT
namespace L2
open PySem PySem.Spec PyProof.Rows
section
variable {X : Cx}
/-- () + u -/
def rCatT0 (K : PySem.W.Frag) : R2 := fun x y H Q => ∃ a b ys, x = .ref a ∧ y = .ref b ∧ SqT K H a [] ∧ SqT K H b ys ∧ Q (.ref b) H
theorem op_catT0 : OpR X (binaryOp .Add) (rCatT0 X.K) := by
  intro pins s σ H x y v u Q I rx ry h
  obtain ⟨a, b, ys, rfl, rfl, ha, hb, q⟩ := h
  cases rx
  cases ry
  obtain ⟨its, r1, p1, _⟩ := I.tuple ha
  obtain ⟨its2, r2, p2, _⟩ := I.tuple hb
  cases r1
  exact HT.cat_tup0 p1 p2 ⟨.ref b, H, I, rfl, q⟩
/-- t + u, whatever t is -/
def rCatTA (K : PySem.W.Frag) : R2 := fun x y H Q => rCatT0 K x y H Q ∨ rCatT K x y H Q
theorem op_catTA : OpR X (binaryOp .Add) (rCatTA X.K) := by
  intro pins s σ H x y v u Q I rx ry h
  rcases h with h | h
  · exact op_catT0 pins s σ H x y v u Q I rx ry h
  · exact op_catT pins s σ H x y v u Q I rx ry h
/-- t * k, t not empty, k from 2 on -/
def rRepT (K : PySem.W.Frag) : R2 := fun x y H Q => ∃ a k xs, x = .ref a ∧ y = .int k ∧ SqT K H a xs ∧ xs ≠ [] ∧ 2 ≤ k ∧ k ≤ 1000 ∧ xs.length ≤ 1000 ∧ ∀ p, H p = none → Q (.ref p) (upd H p (.tup (List.replicate k.toNat xs).flatten))
end
end L2

namespace L2
open PySem PySem.Spec PyProof.Rows
/-! ### the statements of a def under names: what follows stays small -/
section
variable {D : Ends} {σ : L2.St} {H : Hp}
end
end L2

namespace L2
open PySem PySem.Spec PyProof.Rows PySem.W
section
variable {X : Cx}
end
end L2
namespace TM
open PySem PySem.Spec PyProof.Rows PySem.W
/-- j unlike things of a list: it is that long -/
theorem pigeon {α : Type} [BEq α] [LawfulBEq α] (f : Nat → α) : ∀ (j : Nat) (l : List α), (∀ i, i < j → f i ∈ l) → (∀ i k, i < j → k < j → f i = f k → i = k) → j ≤ l.length := by
  intro j
  induction j with
  | zero =>
    intro l _ _
    exact Nat.zero_le _
  | succ j ih =>
    intro l hm hi
    have h1 := hm j (Nat.lt_succ_self _)
    have := ih (l.erase (f j)) (fun i hij => (List.mem_erase_of_ne (fun e => by
      have := hi i j (by omega) (by omega) e
      omega)).mpr (hm i (by omega))) (fun i k a b e => hi i k (by omega) (by omega) e)
    rw [List.length_erase_of_mem h1] at this
    have : 0 < l.length := List.length_pos_of_mem h1
    omega
/-- the letter j places on, round the 26 -/
def rd (c j : Nat) : Nat := 97 + (c - 97 + j) % 26
abbrev LET : Str := "abcdefghijklmnopqrstuvwxyz"
theorem at_let {j : Nat} (h : j < 26) : (cps LET)[j]? = some (97 + j) := by
  have all : ∀ k : Fin 26, (cps LET)[k.val]? = some (97 + k.val) := by decide +kernel
  exact all ⟨j, h⟩
end TM

namespace L2
open PySem PySem.Spec PyProof.Rows
/-! ### for over range(a, b, c) -/
def Itr3 (lo c : Int) (n : Nat) : It := ⟨fun i _ => i < n, fun i H x H' => H' = H ∧ x = .int (lo + (i : Nat) * c), fun i _ => n ≤ i⟩
theorem turn_range3 {P : Program} {w : World} {K : PySem.W.Frag} {tg : Expr} (it : Addr) (lo c : Int) (n : Nat) : Turn P w K tg (Itr3 lo c n) [it] it (fun i h => IsRangeIter h it (lo + (i : Nat) * c) ((n : Int) - (i : Nat)) c) where
  mem := by simp
  obj := fun i h st b hb => by
    have e : b = it := by simpa using hb
    subst e
    exact ⟨_, st, fun v z => by
      have z' : Data.fields _ = Data.cell v := z
      cases z'⟩
  keep := fun i h h' st k => k it (by simp) _ st
  item := by
    intro X hP hw hK hc i pins s σ H E I hf st hg
    subst hP hw hK
    obtain ⟨f0, f1, f2, f3, f4, f5⟩ := hf it (by simp)
    have W := Walks.range (prog := X.prog) (w := X.w) (I.ok.hd hc) it lo c n
    refine W.item i s _ _ hg st fun v h' tk hv st' kk => ?_
    obtain ⟨t, rfl⟩ := hv
    have I1 : Inv X pins σ H { s with heap := h', toks := tk } := I.turned (fun b o hb e => kk b o (by simpa using hb) e) f0 f1 f3 f4 f5
    exact ⟨_, rfl, go_of (s := { s with heap := h', toks := tk }) (n := "range_iterator") st' rfl rfl (by decide) ⟨.int (lo + (i : Nat) * c), H, I1, ⟨t, rfl⟩, ⟨rfl, rfl⟩, st', fun b hb => (hf b hb).1⟩⟩
  done := by
    intro X hP hw hK hc i pins s σ H E I hf st hg
    subst hP hw hK
    obtain ⟨f0, f1, f2, f3, f4, f5⟩ := hf it (by simp)
    exact wpAny_pyNext_range_end (I.ok.hd hc) st (by have : n ≤ i := hg; omega) fun h' eb => ⟨rfl, I.turned (t' := s.toks) (fun b o hb e => eb b o hb e) f0 f1 f3 f4 f5⟩
  self := fun _ _ _ _ _ st h => wpAny_pyIter_rangeiter st h
def iRng3 (ta : TA) : TI := fun σ H R => ta σ H fun vs H1 => ∃ i j c : Int, vs = [.int i, .int j, .int c] ∧ (-(2 ^ 20) ≤ i ∧ i ≤ 2 ^ 20 ∧ -(2 ^ 20) ≤ j ∧ j ≤ 2 ^ 20 ∧ 0 < c ∧ c ≤ 2 ^ 20) ∧ R (Itr3 i c (if i < j then (j - i - 1) / c + 1 else 0).toNat) H1
theorem for_range3 {lo c : Int} {n : Nat} {g : TG} {tb : TS} {D : Ends} {σ : St} {H : Hp} (Pv : Nat → St → Hp → Prop) (h0 : Pv 0 σ H)
    (hs : ∀ i σ H, i < n → Pv i σ H → g (.int (lo + (i : Nat) * c)) σ H fun σ2 H2 => tb { D with nx := Pv (i + 1), ct := Pv (i + 1), bk := D.nx } σ2 H2) (hd : ∀ σ H, Pv n σ H → D.nx σ H) :
    ∃ W : Nat → Nat → St → Hp → Prop, (∃ m, W 0 m σ H) ∧ ∀ i m σ H, W i m σ H →
      ((Itr3 lo c n).stop i H ∧ D.nx σ H) ∨ ((Itr3 lo c n).go i H ∧ ∃ N : St → Hp → Prop, (∀ σ' H', N σ' H' → ∃ m', m' < m ∧ W (i + 1) m' σ' H') ∧ ∀ x H', (Itr3 lo c n).yld i H x H' → g x σ H' fun σ2 H2 => tb { D with nx := N, ct := N, bk := D.nx } σ2 H2) := by
  refine ⟨fun i m σ H => m = n - i ∧ i ≤ n ∧ Pv i σ H, ⟨n, by simp, Nat.zero_le _, h0⟩, ?_⟩
  rintro i m σ H ⟨rfl, hi, p⟩
  by_cases hlt : i < n
  · refine .inr ⟨hlt, Pv (i + 1), fun σ' H' p' => ⟨n - (i + 1), by omega, rfl, hlt, p'⟩, fun v H' y => ?_⟩
    obtain ⟨e, rfl⟩ := y
    subst e
    exact hs i σ _ hlt p
  · have e : i = n := by omega
    subst e
    exact .inl ⟨Nat.le_refl _, hd σ H p⟩
end L2

namespace L2
open PySem PySem.Spec PyProof.Rows
/-! ### sorted(xs, reverse=True) of ints -/
def tSortR (K : PySem.W.Frag) (te : TE) : TE := fun σ H Q => te σ H fun x H1 => ∃ (a : Addr) (ns : List Int), x = .ref a ∧ SqL K H1 a (ns.map V.int) ∧ ns.length < 64 ∧
  ∀ (p : Addr) (ns' : List Int), ns'.Perm ns → ns'.Pairwise (· ≥ ·) → H1 p = none → Q (.ref p) (upd H1 p (.lst (ns'.map V.int)))
theorem pe_sortR {X : Cx} {e : Expr} {te : TE} {p pos kp bp : Pos} {j : Nat} (hg : Gl X "sorted") (hm : X.mg "sorted" = none) (he : PE X e te)
    (h1 : backTo pos (starEach [e] X.env) = (false, eval e X.env) :: backTo pos (starEach [] X.env) := by rfl) (h2 : (backTo pos (starEach [e] X.env)).any (·.1) = false := by rfl) :
    PE X (.Call (.Name "sorted" p) [e] [⟨some "reverse", .Constant (.bool true) j bp, kp⟩] pos) (tSortR X.K te) := by
  intro pins s σ H Q I h
  refine wpAny_Call_Name_kw (ld_blt I hg hm boot_sorted (callWith_kw ?_ h1 h2 rfl rfl))
  rw [h1]
  refine Calls.spliced_cons (thn (he pins s σ H _ I h) fun v s1 ⟨x1, H1, I1, r1, a, ns, ex, hl, h64, q⟩ => ?_)
  subst ex
  cases r1
  refine Calls.spliced_nil ?_
  refine kws_cons (thn (pe_bl (b := true) pins s1 σ H1 (fun v H' => v = .bl true ∧ H' = H1) I1 ⟨rfl, rfl⟩) fun u s2 ⟨y, H2, I2, r2, ey, eH⟩ => ?_)
  subst ey eH
  cases r2
  refine kws_nil ?_
  obtain ⟨its, r', pl, hz⟩ := I2.list hl
  have hlen := r'.length
  rw [List.length_map] at hlen
  refine sorted_ints_rev (b := true) (pl.isList) (intsAre_of r') (by omega) fun out ns' a1 a2 a3 => ?_
  obtain ⟨e, he⟩ := sortedAll_at s2.heap its out
  refine ⟨.ref (s2.heap.objs.size + 1), _, I2.laid (a := s2.heap.objs.size + 1) (o := .lst (ns'.map V.int)) (t' := s2.toks) (fun _ _ => sortedAll_old) (Nat.le_succ _) (lst_ok (its := out.toList) (e := e) (vals_of_ints a1) ?_ (by rw [Array.toArray_toList]; exact he)), rfl, q _ ns' a2 a3 (I2.hok.fresh (Nat.le_succ _))⟩
  rw [List.length_map, a2.length_eq]
  exact sz1000 (by omega)
/-! ### for over reversed(range(n)) -/
theorem sub_ri_reversed : isSubtype (.type "range_iterator") (.type "reversed") = pure false := by rw [isSubtype_type]; kernel_rfl
abbrev rngObj (n : Int) (t u v : Tok) : Obj := { cls := .type "range", data := .fields #[.int 0 t, .int n u, .int 1 v] }
abbrev rngIt (n : Int) : Obj := { cls := .type "range_iterator", data := .fields #[rawInt (n - 1), rawInt n, rawInt (-1)] }
section
variable {prog : Program} {w : World} {A : Around} {E : Value → Shared → Prop} {s : Shared}
theorem call_range_reversed {l : Addr} {n : Int} {t u v : Tok} {Q : Value → Shared → Prop} (hl : s.heap.get? l = some (rngObj n t u v)) (h0 : 0 ≤ n) (h1 : n < 2 ^ 62)
    (h : Q (.ref s.heap.objs.size) { s with heap := s.heap.push (rngIt n) }) : wpAny (model prog w) A (call (.builtin "range.__reversed__") [.ref l]) Q E s := by
  refine wpAny_call_entry F.slot_range_reversed ⟨_, hl, rfl⟩ F.entry_range_reversed ?_ (F.args_range_reversed_1 _)
  unfold Builtin.«range.__reversed__»
  refine wpAny_bind (wpAny_of_eq (a := Value.ref l) rfl ?_)
  unfold Builtin.Range.rangeFields
  refine wpAny_bind ?_
  refine wpAny_bind (wpAny_field hl rfl (x := .int 0 t) rfl ?_)
  refine wpAny_bind (wpAny_of_eq (a := some 0) rfl ?_)
  refine wpAny_bind (wpAny_field hl rfl (x := .int n u) rfl ?_)
  refine wpAny_bind (wpAny_of_eq (a := some n) rfl ?_)
  refine wpAny_bind (wpAny_field hl rfl (x := .int 1 v) rfl ?_)
  refine wpAny_bind (wpAny_of_eq (a := some 1) rfl ?_)
  refine wpAny_pure ?_
  have hz : Builtin.Range.rangeSize 0 n 1 = n := by
    rw [rangeSize_one]
    split <;> omega
  dsimp only
  rw [hz]
  have hs : (Builtin.Range.rangeFitsLong 0 && Builtin.Range.rangeFitsLong n && Builtin.Range.rangeFitsLong 1 && Builtin.Range.rangeFitsLong (-1) && Builtin.Range.rangeFitsLong (0 - 1) && Builtin.Range.rangeFitsLong n) = true := by
    simp only [Builtin.Range.rangeFitsLong, Bool.and_eq_true, decide_eq_true_eq]
    omega
  rw [hs]
  rw [if_neg (by decide), if_pos rfl]
  have e : (0 : Int) + (n - 1) * 1 = n - 1 := by omega
  rw [e]
  exact wpAny_bind (wpAny_newObj_type (wpAny_pure ⟨_, rfl, h⟩))
theorem code_reversed_range {l : Addr} {n : Int} {t u v : Tok} {Q₁ : Value → Shared → Prop} (hl : s.heap.get? l = some (rngObj n t u v)) (h0 : 0 ≤ n) (h1 : n < 2 ^ 62)
    (h : Q₁ (.ref s.heap.objs.size) { s with heap := s.heap.push (rngIt n) }) :
    codeAny (model prog w) A (.call (.builtin "reversed.__new__") ⟨[.type "reversed", .ref l], []⟩) (wants Q₁ E) s := by
  refine codeAny_of_tree ?_
  show wpAny _ A.in1 (do checkBuiltinCall "reversed.__new__" ⟨[.type "reversed", .ref l], []⟩; again (.builtin "reversed.__new__" ⟨[.type "reversed", .ref l], []⟩)) _ _ s
  refine wpAny_bind (wpAny_of_eq (F.newCall_reversed_1 _) (wpAny_pure ⟨plainId_quiet F.plain_reversed_new _, codeAny_builtin F.entry_reversed_new ?_⟩))
  rw [Around.under_plainId F.plain_reversed_new _]
  unfold Builtin.«reversed.__new__»
  refine wpAny_bind (wpAny_of_eq (newClass_reversed _) ?_)
  dsimp only
  refine wpAny_bind (wpAny_of_eq (a := ()) (by first | rfl | kernel_rfl) ?_)
  refine wpAny_bind (wpAny_of_eq (a := ()) (by first | rfl | kernel_rfl) ?_)
  refine wpAny_bind (wpAny_specialOf (⟨_, hl, rfl⟩ : s.TypeIs (.ref l) "range") F.slot_range_reversed.lookup ?_)
  dsimp only
  refine wpAny_bind (wpAny_of_eq (F.slot_range_reversed.bind _) ?_)
  dsimp only
  have hne : ¬ ((Value.builtin "range.__reversed__" == Value.none) = true) := Bool.false_ne_true
  show wpAny _ _ (if (Value.builtin "range.__reversed__" == Value.none) = true then _ else _) _ _ _
  rw [if_neg hne]
  refine wpAny_bind (wpAny_rule ?_)
  refine wpAny_bind (m := runValue (.call (.builtin "range.__reversed__") ⟨[.ref l], []⟩)) (show wpAny _ _ (call (.builtin "range.__reversed__") [.ref l]) _ _ _ from call_range_reversed hl h0 h1 ?_)
  first
  | exact wpAny_pure h
  | exact wpAny_bind (wpAny_pure (wpAny_pure h))
theorem call_reversed_range {l : Addr} {n : Int} {t u v : Tok} {Q : Value → Shared → Prop} (hl : s.heap.get? l = some (rngObj n t u v)) (h0 : 0 ≤ n) (h1 : n < 2 ^ 62)
    (h : Q (.ref s.heap.objs.size) { s with heap := s.heap.push (rngIt n) }) : wpAny (model prog w) A (call (.type "reversed") [.ref l]) Q E s := by
  refine callType_other (U := "range_iterator") (Q₁ := fun obj s₁ => obj = .ref s.heap.objs.size ∧ s₁ = { s with heap := s.heap.push (rngIt n) }) (by decide +kernel) F.create_reversed ⟨_, _, F.mro_reversed⟩ F.made_reversed sub_ri_reversed (F.typeCall_reversed_1 _) (code_reversed_range hl h0 h1 ⟨rfl, rfl⟩) ?_
  rintro obj s₁ ⟨rfl, rfl⟩
  exact ⟨⟨_, Heap.get?_push_size _ rfl, rfl⟩, h⟩
end
def iRev (ta : TA) : TI := fun σ H R => ta σ H fun vs H1 => ∃ n : Int, vs = [.int n] ∧ 0 ≤ n ∧ n < 2 ^ 62 ∧ R (Itr3 (n - 1) (-1) n.toNat) H1
theorem pi_rev {X : Cx} {tg a : Expr} {ta : TA} {p p2 pos pos2 : Pos} (hg : Gl X "reversed") (hm : X.mg "reversed" = none) (hg2 : Gl X "range") (hm2 : X.mg "range" = none) (ha : PA X [a] ta) (hs : starEach [a] X.env = [(false, eval a X.env)] := by rfl)
    (hs2 : starEach [.Call (.Name "range" p2) [a] [] pos2] X.env = [(false, eval (.Call (.Name "range" p2) [a] [] pos2) X.env)] := by rfl) :
    PI X tg (.Call (.Name "reversed" p) [.Call (.Name "range" p2) [a] [] pos2] [] pos) (iRev ta) := by
  intro pins s σ H R I h
  refine Call_ (ld_blt I hg hm boot_reversed (PyProof.Rows.callWith_type1 ?_ hs2 rfl))
  rw [hs2]
  refine Calls.spliced_cons ?_
  refine Call_ (ld_blt I hg2 hm2 boot_range (PyProof.Rows.callWith_type1 (thn (ha pos2 pins s σ H _ I h) fun us s1 ⟨vs, H1, I1, r1, q1⟩ => ?_) hs rfl))
  obtain ⟨n, e, q1, q2, q⟩ := q1
  subst e
  cases r1 with
  | cons r rr =>
    cases rr
    obtain ⟨t, rfl⟩ := r
    refine call_range_1 ?_
    refine Calls.spliced_nil ?_
    refine call_reversed_range (n := n) (Heap.get?_push_size _ rfl) q1 q2 ?_
    have I2 : Inv X pins σ H1 { s1 with heap := (s1.heap.push (rngObj n s1.toks t (s1.toks + 1))).push (rngIt n), toks := s1.toks + 1 + 1 } := I1.kept fun b o e => Heap.get?_push_of_some _ (Heap.get?_push_of_some _ e)
    have hz : (s1.heap.push (rngObj n s1.toks t (s1.toks + 1))).objs.size = s1.heap.objs.size + 1 := size_push' _ _
    have hi : IsRangeIter ((s1.heap.push (rngObj n s1.toks t (s1.toks + 1))).push (rngIt n)) (s1.heap.push (rngObj n s1.toks t (s1.toks + 1))).objs.size (n - 1) n (-1) := Heap.get?_push_size _ rfl
    refine wpAny_pyIter_rangeiter hi ?_
    refine ⟨_, [_], _, _, H1, rfl, I2, turn_range3 _ (n - 1) (-1) n.toNat, ?_, fun b hb => ?_, q⟩
    · show IsRangeIter _ _ (n - 1 + ((0 : Nat) : Int) * -1) (((n.toNat : Nat) : Int) - ((0 : Nat) : Int)) (-1)
      have e1 : n - 1 + ((0 : Nat) : Int) * -1 = n - 1 := by simp
      have e2 : ((n.toNat : Nat) : Int) - ((0 : Nat) : Int) = n := by omega
      rw [e1, e2]
      exact hi
    · have e : b = (s1.heap.push (rngObj n s1.toks t (s1.toks + 1))).objs.size := by simpa using hb
      subst e
      have hf := I1.fpOk (b := (s1.heap.push (rngObj n s1.toks t (s1.toks + 1))).objs.size) (by rw [hz]; exact Nat.le_succ _) (I1.hok.fresh (by rw [hz]; exact Nat.le_succ _))
      exact hf
end L2

namespace GM
/-- t over b, in lowest terms, is N over M -/
structure Fr (M t b N : Int) : Prop where
  am : Amt t b
  e : t * M = N * b
end GM

namespace K43
open PySem PySem.Spec PyProof.Rows L2 GM TM
def top (i : Nat) : Stmt := PySem.Challenge.pw_phialhouse_k43_steps_narrow_enough.main.body.getD i (.Pass ⟨0, 0, 0, 0⟩)
abbrev sNeedOf : Stmt := top 1
abbrev sNeeds : Stmt := top 2
abbrev sStepsOf : Stmt := top 4
abbrev sWithin : Stmt := top 5
abbrev sRecs : Stmt := top 6
abbrev sWidth : Stmt := top 7
abbrev sCell : Stmt := top 9
abbrev sMixed : Stmt := top 10
abbrev sWhole : Stmt := top 11
abbrev sLowest : Stmt := top 12
abbrev sAdd : Stmt := top 13
abbrev sDigit : Stmt := top 17
abbrev sNames : Stmt := top 18
abbrev sWares : Stmt := top 19
abbrev sMuch : Stmt := top 20
abbrev sFreeC : Stmt := top 21
abbrev sCounts : Stmt := top 22
abbrev sTotal : Stmt := top 23
abbrev sFreeR : Stmt := top 24
abbrev sRoot : Stmt := top 25
abbrev sAt : Stmt := top 26
abbrev sNeed : Stmt := top 27
abbrev sWalk : Stmt := top 28
abbrev sLaw : Stmt := top 29
structure Txt (mg : Str → Option Value) : Prop where
  isi : mg "isinstance" = none
  int' : mg "int" = none
  bool' : mg "bool" = none
  tup' : mg "tuple" = none
  len : mg "len" = none
  range : mg "range" = none
  min' : mg "min" = none
  max' : mg "max" = none
  abs' : mg "abs" = none
  list' : mg "list" = none
  sorted' : mg "sorted" = none
  sum' : mg "sum" = none
  rev' : mg "reversed" = none
  enum' : mg "enumerate" = none
def spCell (K : PySem.W.Frag) : Sp := fun vs H Q _ => ∃ (a : Addr) (ns : List Int) (k : Int), vs = [.ref a, .int k] ∧ SqL K H a (ns.map V.int) ∧ 0 ≤ k ∧ ∀ c : Int, Q (.int c) H
structure Wr (x : Str) : Prop where
  l1 : 1 ≤ x.length
  l8 : x.length ≤ 8
  lt : ∀ c ∈ cps x, 97 ≤ c ∧ c ≤ 122
instance (x : Str) : Decidable (Wr x) := decidable_of_iff ((1 ≤ x.length ∧ x.length ≤ 8) ∧ ∀ c ∈ cps x, 97 ≤ c ∧ c ≤ 122) ⟨fun h => ⟨h.1.1, h.1.2, h.2⟩, fun h => ⟨⟨h.l1, h.l8⟩, h.lt⟩⟩
instance (x : Str) : Decidable (Wr x) := decidable_of_iff ((1 ≤ x.length ∧ x.length ≤ 8) ∧ ∀ c ∈ cps x, 97 ≤ c ∧ c ≤ 122) ⟨fun h => ⟨h.1.1, h.1.2, h.2⟩, fun h => ⟨⟨h.l1, h.l8⟩, h.lt⟩⟩
section
variable {P : Program} {w : World} {K : PySem.W.Frag} {mg : Str → Option Value} {base : Heap}
theorem gcd_turn {a0 b0 a b : Int} (e : G a b = G a0 b0) (hb : 0 ≤ b) (h : ¬ b = 0) : 0 ≤ a % b ∧ G b (a % b) = G a0 b0 := ⟨Int.emod_nonneg a h, by rw [G_step]; exact e⟩
theorem b6 {n : Nat} {x : Int} (h : Bt n x) (hn : n ≤ 1000000 := by decide) : Bt 1000000 x := h.mono hn
theorem bt_lt (n : Nat) {x c : Int} (h0 : 0 ≤ x) (h : x < c) (hc : c ≤ ((2 ^ n : Nat) : Int) := by decide +kernel) : Bt n x := by
  show x.natAbs < 2 ^ n
  omega
theorem emod_in (x : Int) {m : Int} (h : 0 < m) : 0 ≤ x % m ∧ x % m < m := ⟨Int.emod_nonneg x (by omega), Int.emod_lt_of_pos x h⟩
theorem bt_int : bootBuiltins "int" = some (.type "int") := by decide +kernel
theorem bt_bool : bootBuiltins "bool" = some (.type "bool") := by decide +kernel
theorem bt_tuple : bootBuiltins "tuple" = some (.type "tuple") := by decide +kernel
theorem bl {c : Int} (h0 : 0 ≤ c := by decide) (h : c < 18446744073709551616 := by decide) : Bt 1000000 c := b6 (bt_lt 64 h0 h)
theorem bk {c : Int} (h0 : 0 ≤ c := by decide) (h : c < 18446744073709551616 := by decide) : Bt 1000 c := (bt_lt 64 h0 h).mono (by decide)
theorem scCell : FnScope ["_law_script", "_law_k"] ["_law_script", "_law_k"] (defScope sCell) := ⟨rfl, rfl, rfl, by decide +kernel, rfl, by decide +kernel, by decide +kernel⟩
theorem ok_cell {f : Addr} {fd : FuncData} (F : Fun K "_law_cell_at" "_law_cell_at" sCell f fd) (T : Txt mg) : FnOk P w K mg base CX0 1 f fd ["_law_script", "_law_k"] (spCell K) := by
  refine F.ok scCell (fun vs H Q E h => ?_) (fun cdv A outer s H vs Q E hr h => ?_)
  · obtain ⟨_, _, _, rfl, _⟩ := h
    rfl
  · obtain ⟨a, ns, j, rfl, hS, h0, k⟩ := h
    refine ⟨_, (pss_cons (ps_if (pt_cmpR op_lt (pv 1) (pe_callB call_len_seq rfl T.len PySem.boot_len (pa_cons (pv 0) pa_nil)) (nomark _))
        (pss_one (ps_ret (pe_ix ix_list (pv 0) (pv 1) (fun _ _ => rfl))))
        pss_nil)
      (pss_one (ps_ret pe_int))), ?_⟩
    refine ⟨_, rfl, _, rfl, a, _, rfl, .inl hS, _, _, rfl, rfl, _, rfl, ite2 (fun hc => ?_) (fun _ => k _)⟩
    have hc' : j < ((ns.map V.int).length : Int) := of_decide_eq_true hc
    rw [List.length_map] at hc'
    obtain ⟨i, rfl⟩ := Int.eq_ofNat_of_zero_le h0
    obtain ⟨c, hc⟩ : ∃ c, ns[i]? = some c := ⟨_, List.getElem?_eq_getElem (show i < ns.length by omega)⟩
    exact ⟨_, rfl, _, rfl, a, _, (i : Int), .int c, rfl, rfl, hS, atI_nat (by rw [List.getElem?_map, hc]; rfl), k c⟩
theorem bt_abs : bootBuiltins "abs" = some (.builtin "abs") := by decide +kernel
theorem lenC (x : Str) : x.length = (cps x).length := by simp [Str.length, cps]
theorem lenA (x y : Str) : (x ++ y).length = x.length + y.length := by rw [lenC, cps_append', List.length_append, ← lenC, ← lenC]
theorem in_strs {x : Str} {ws : List Str} : inV (.str x) (ws.map V.str) = true ↔ x ∈ ws := by
  unfold inV
  rw [List.any_map, List.any_eq_true]
  constructor
  · rintro ⟨y, hy, e⟩
    have : y = x := by simpa [eqV] using e
    exact this ▸ hy
  · intro h
    exact ⟨x, h, by simp [eqV]⟩
theorem flat_strs (ws : List Str) : (ws.map V.str).all flatV = true := by
  rw [List.all_map, List.all_eq_true]
  intro x _
  rfl
theorem nodup_snoc {ws : List Str} {x : Str} (h : ws.Nodup) (n : x ∉ ws) : (ws ++ [x]).Nodup := by
  rw [List.nodup_append]
  refine ⟨h, by simp, fun y hy z hz e => ?_⟩
  rw [List.mem_singleton.mp hz] at e
  exact n (e ▸ hy)
theorem clOk_plain {X : Cx} {scope : Scope} (h : ∀ y ∈ scope.names, y.2 = .local ∨ y.2 = .globalImplicit) : ClOk X scope [] := by
  refine ⟨closureFor_none fun x hx z => ?_, fun x c e => by simp at e, fun x e => ?_⟩
  · rcases h x hx with q | q <;> rw [q] at z <;> cases z
  · exfalso
    have e' : ∃ k, (k = NameKind.cell ∨ k = NameKind.free) ∧ (relabel scope X.env).names.lookup x = some k := by
      rcases e with e | e
      · exact ⟨_, .inl rfl, e⟩
      · exact ⟨_, .inr rfl, e⟩
    obtain ⟨k, hk, e⟩ := e'
    have hm := PySem.mem_of_lookup e
    obtain ⟨y, hy, hy2⟩ := List.mem_map.mp hm
    have hl := h y hy
    obtain ⟨n, kk⟩ := y
    simp only at hl
    rcases hl with hl | hl <;> subst hl <;> simp at hy2 <;> rcases hk with rfl | rfl <;> exact absurd hy2.2 (by decide)
theorem list_eq {α : Type} {ys l : List α} (hl : ys.length = l.length) (h : ∀ (i : Nat) x y, l[i]? = some x → ys[i]? = some y → y = x) : ys = l := by
  refine List.ext_getElem? fun i => ?_
  by_cases hi : i < l.length
  · have e1 := List.getElem?_eq_getElem hi
    have e2 : ys[i]? = some (ys[i]'(by omega)) := List.getElem?_eq_getElem (by omega)
    rw [e1, e2, h i _ _ e1 e2]
  · rw [List.getElem?_eq_none (by omega), List.getElem?_eq_none (by omega)]
end
end K43

namespace L2
open PySem PySem.Spec PyProof.Rows
/-! ### texts joined, str of an int or a text -/
/-- the text that join tells -/
def jn (sep : Str) : List Str → Str
  | [x] => x
  | l => Builtin.Str.glued sep l
def rJoin (K : PySem.W.Frag) : V → List V → Hp → VK → Prop := fun z vs H Q => ∃ sep a ss, z = .str sep ∧ vs = [.ref a] ∧ SqL K H a (ss.map V.str) ∧ sep.length ≤ 10 ∧ ss.length ≤ 100 ∧ (∀ x ∈ ss, x.length ≤ 1000) ∧ Q (.str (jn sep ss)) H
/-- for over a text's signs -/
theorem for_str {x : Str} {g : TG} {tb : TS} {D : Ends} {σ : St} {H : Hp} (Pv : Nat → St → Hp → Prop) (h0 : Pv 0 σ H)
    (hs : ∀ i c σ H, x.cps[i]? = some c → Pv i σ H → g (.str ⟨#[c]⟩) σ H fun σ2 H2 => tb { D with nx := Pv (i + 1), ct := Pv (i + 1), bk := D.nx } σ2 H2) (hd : ∀ σ H, Pv x.cps.size σ H → D.nx σ H) :
    ∃ W : Nat → Nat → St → Hp → Prop, (∃ m, W 0 m σ H) ∧ ∀ i m σ H, W i m σ H →
      ((Its x).stop i H ∧ D.nx σ H) ∨ ((Its x).go i H ∧ ∃ N : St → Hp → Prop, (∀ σ' H', N σ' H' → ∃ m', m' < m ∧ W (i + 1) m' σ' H') ∧ ∀ v H', (Its x).yld i H v H' → g v σ H' fun σ2 H2 => tb { D with nx := N, ct := N, bk := D.nx } σ2 H2) := by
  refine ⟨fun i m σ H => m = x.cps.size - i ∧ i ≤ x.cps.size ∧ Pv i σ H, ⟨x.cps.size, by simp, Nat.zero_le _, h0⟩, ?_⟩
  rintro i m σ H ⟨rfl, hi, p⟩
  by_cases hlt : i < x.cps.size
  · refine .inr ⟨⟨x.cps[i], Array.getElem?_eq_getElem hlt⟩, Pv (i + 1), fun σ' H' p' => ⟨x.cps.size - (i + 1), by omega, rfl, hlt, p'⟩, fun v H' y => ?_⟩
    obtain ⟨e, c, hc, rfl⟩ := y
    subst e
    exact hs i c σ _ hc p
  · have e : i = x.cps.size := by omega
    subst e
    exact .inl ⟨Array.getElem?_eq_none (Nat.le_refl _), hd σ H p⟩
section
variable {X : Cx}
/-- the text of an int or a text -/
def tx : V → Str
  | .int n => toString n
  | .str x => x
  | _ => Str.empty
def TxOk (v : V) : Prop := (∃ n : Nat, v = .int n ∧ n < 10 ^ 60) ∨ ∃ x, v = .str x ∧ x.length ≤ 100
end
end L2

namespace K43
open PySem PySem.Spec PyProof.Rows L2 GM TM
/-- all but the object at a has stayed -/
def SmB (a : Addr) (H H' : Hp) : Prop := ∀ b o, b ≠ a → H b = some o → H' b = some o
theorem SmB.refl {a : Addr} {H : Hp} : SmB a H H := fun _ _ _ h => h
theorem SmB.trans {a : Addr} {H H1 H2 : Hp} (h : SmB a H H1) (k : SmB a H1 H2) : SmB a H H2 := fun b o n e => k b o n (h b o n e)
theorem SmB.of {a : Addr} {H H' : Hp} (h : Same H H') : SmB a H H' := fun b o _ e => h b o e
theorem SmB.upd {a : Addr} {H : Hp} {o : HO} : SmB a H (upd H a o) := fun b u n e => by rw [upd_ne n]; exact e
theorem SmB.own {a p : Addr} {H H' : Hp} {o : HO} (h : SmB a H H') (n : H p = none) : SmB a H (L2.upd H' p o) := fun b u nb e => by
  have ne : b ≠ p := fun z => by rw [z, n] at e; cases e
  rw [upd_ne ne]
  exact h b u nb e
theorem SmB.none {a p : Addr} {H H' : Hp} (h : SmB a H H') (n : H' p = none) (pa : p ≠ a) : H p = none := by
  cases e : H p with
  | none => rfl
  | some o =>
    have := h p o pa e
    rw [n] at this
    cases this
/-- what is left of a cell's digits -/
def Lf (H : Hp) (a : Addr) : Prop := ∃ n : Int, H a = some (.lst [.int n]) ∧ 0 ≤ n
theorem Lf.keep {H H' : Hp} {a : Addr} (h : Lf H a) (s : Same H H') : Lf H' a := by
  obtain ⟨n, e, r⟩ := h
  exact ⟨n, s _ _ e, r⟩
theorem Lf.there {H : Hp} {a b : Addr} (h : Lf H a) (n : H b = none) : b ≠ a := fun z => by
  obtain ⟨_, e, _⟩ := h
  rw [← z, n] at e
  cases e
theorem Lf.own {H : Hp} {a p : Addr} {o : HO} (h : Lf H a) (n : p ≠ a) : Lf (upd H p o) a := by
  obtain ⟨m, e, r⟩ := h
  exact ⟨m, by rw [upd_ne (Ne.symm n)]; exact e, r⟩
def spMixed : Sp := fun vs H Q _ => ∃ c k : Int, vs = [.int c, .int k] ∧ 0 ≤ k ∧ k ≤ 1000 ∧ ∀ n : Int, 0 ≤ n → n < 2147483647 → Q (.int n) H
def spLowest : Sp := fun vs H Q _ => ∃ t b : Int, vs = [.int t, .int b] ∧ 0 ≤ t ∧ 1 ≤ b ∧ Bt 9000 b ∧ ∀ p H', Same H H' → H p = none → H' p = some (.tup [.int (t / G t b), .int (b / G t b)]) → Q (.ref p) H'
def spDigit : Sp := fun vs H Q _ => ∃ (a : Addr) (m : Int), vs = [.ref a, .int m] ∧ Lf H a ∧ 1 ≤ m ∧ Bt 9000 m ∧ ∀ (d : Int) H', 0 ≤ d → d < m → SmB a H H' → Lf H' a → Q (.int d) H'
def spNames : Sp := fun vs H Q _ => ∃ a : Addr, vs = [.ref a] ∧ Lf H a ∧ ∀ (ws : List Str) p H', ws.length = 6 → ws.Nodup → (∀ x ∈ ws, Wr x) → SmB a H H' → H p = none → p ≠ a → H' p = some (.lst (ws.map V.str)) → Q (.ref p) H'
/-- a room: what is more than nought, in lowest terms -/
structure Rm (t b : Int) : Prop where
  t1 : 1 ≤ t
  b1 : 1 ≤ b
  g : G t b = 1
  st : Bt 63 t
  sb : Bt 63 b
def spMuch : Sp := fun vs H Q _ => ∃ n : Int, vs = [.int n] ∧ 0 ≤ n ∧ n < 2147483647 ∧ ∀ t b p H', Rm t b → Same H H' → H p = none → H' p = some (.tup [.int t, .int b]) → Q (.ref p) H'
theorem low_rm {t b : Int} (h0 : 1 ≤ t) (h1 : 1 ≤ b) (ht : Bt 63 t) (hb : Bt 63 b) : Rm (t / G t b) (b / G t b) := by
  have a := low_amt (t := t) (b := b) (by omega) h1
  have g := G_pos (a := t) (b := b) (by omega)
  have l := Int.le_of_dvd (by omega) (G_dvd_l t b)
  refine ⟨(Int.le_ediv_iff_mul_le g).mpr (by omega), (Int.le_ediv_iff_mul_le g).mpr (by have := G_le_r (a := t) (b := b) (by omega); omega), a.3, ht.le a.1 (Int.ediv_le_self _ (by omega)), hb.le (by have := a.2; omega) (Int.ediv_le_self _ (by omega))⟩
theorem low_small {t b : Int} (h1 : 1 ≤ b) (hs : Bt 9000 b) : 0 < G t b ∧ Bt 9000 (G t b) := by
  have p := G_pos (a := t) (b := b) (by omega)
  exact ⟨p, hs.le (by omega) (G_le_r (by omega))⟩
theorem b9 {c : Int} (h0 : 0 ≤ c := by decide) (h : c < 18446744073709551616 := by decide) : Bt 9000 c := (bt_lt 64 h0 h).mono (by decide)
theorem e18 : (10 : Int) ^ Int.toNat 18 = 1000000000000000000 := by decide +kernel
section
variable {P : Program} {w : World} {K : PySem.W.Frag} {mg : Str → Option Value} {base : Heap}
theorem scMixed : FnScope ["_law_cell", "_law_k"] ["_law_cell", "_law_k"] (defScope sMixed) := ⟨rfl, rfl, rfl, by decide +kernel, rfl, by decide +kernel, by decide +kernel⟩
theorem ok_mixed {f : Addr} {fd : FuncData} (F : Fun K "_law_mixed" "_law_mixed" sMixed f fd) : FnOk P w K mg base CX0 1 f fd ["_law_cell", "_law_k"] spMixed := by
  refine F.ok scMixed (fun vs H Q E h => ?_) (fun cdv A outer s H vs Q E hr h => ?_)
  · obtain ⟨_, _, rfl, _⟩ := h
    rfl
  · obtain ⟨c, k, rfl, k0, k1, q⟩ := h
    refine ⟨_, pss_one (ps_ret (pe_op op_mod (pe_op op_mulB (pe_op op_add (pe_op op_add (pe_op op_mod (pv 0) pe_int) (pe_op op_mulB (pv 1) (pv 1))) pe_int) pe_int) pe_int)), ?_⟩
    have c1 := emod_in c (m := 1000003) (by decide)
    have bk1 : Bt 32 k := bt_lt 32 (c := 1001) k0 (by omega)
    have b3 : Bt 66 (c % 1000003 + k * k + 1) := ((bt_lt 64 (c := 1000003) c1.1 c1.2).add (bk1.mul bk1)).add (bt_lt 65 (x := 1) (c := 2) (by decide) (by decide))
    refine ⟨_, rfl, _, _, rfl, rfl, (by show (0 : Int) < 1000003; decide), _, rfl, _, rfl, _, _, rfl, rfl, ⟨b6 bk1, b6 bk1⟩, _, _, rfl, rfl, _, _, rfl, rfl, _, _, rfl, rfl, ⟨b6 b3, bl⟩, _, _, rfl, rfl, (by show (0 : Int) < 2147483647; decide), ?_⟩
    have e := emod_in ((c % 1000003 + k * k + 1) * 48271) (m := 2147483647) (by decide)
    exact q _ e.1 e.2
theorem scLowest : FnScope ["_law_top", "_law_bottom", "_law_one", "_law_other"] ["_law_top", "_law_bottom"] (defScope sLowest) := ⟨rfl, rfl, rfl, by decide +kernel, rfl, by decide +kernel, by decide +kernel⟩
theorem ok_lowest {f : Addr} {fd : FuncData} (F : Fun K "_law_lowest" "_law_lowest" sLowest f fd) : FnOk P w K mg base CX0 1 f fd ["_law_top", "_law_bottom"] spLowest := by
  refine F.ok scLowest (fun vs H Q E h => ?_) (fun cdv A outer s H vs Q E hr h => ?_)
  · obtain ⟨a, b, rfl, _⟩ := h
    rfl
  · obtain ⟨a, b, rfl, ha, hb, bb, k⟩ := h
    refine ⟨_, (pss_cons (ps_set (i := 2) scLowest.nd rfl (Or.inl rfl) (pv 0))
      (pss_cons (ps_set (i := 3) scLowest.nd rfl (Or.inl rfl) (pv 1))
      (pss_cons (ps_while PassesOwn.never (pt_cmpR op_gt (pv 3) pe_int (nomark _))
      (pss_one (ps_par (i := 2) (j := 3) rfl scLowest.nd rfl rfl (by decide) rfl rfl (pa_cons (pv 3) (pa_cons (pe_op op_mod (pv 2) (pv 3)) pa_nil)) rfl)))
      (pss_one (ps_ret (pe_tup (pa_cons (pe_op op_fdivB (pv 0) (pv 2)) (pa_cons (pe_op op_fdivB (pv 1) (pv 2)) pa_nil)))))))), ?_⟩
    refine ⟨_, rfl, _, rfl, ?_⟩
    refine while_by (fun σ H' => H' = H ∧ ∃ (x y : Int), σ = [some (.int a), some (.int b), some (.int x), some (.int y)] ∧ 0 ≤ x ∧ 0 ≤ y ∧ G x y = G a b) (fun σ _ => match σ with | [_, _, _, some (.int y)] => y.toNat | _ => 0) ⟨rfl, a, b, rfl, ha, by omega, rfl⟩ ?_ ?_
    · rintro σ H' ⟨rfl, x, y, rfl, hx, hy, e⟩
      refine ⟨_, rfl, _, _, rfl, rfl, _, rfl, ?_⟩
      refine ite2 (fun hc => ?_) (fun hc => ?_)
      · have hy0 : 0 < y := of_decide_eq_true hc
        have t := gcd_turn e hy (by omega)
        refine ⟨_, rfl, _, rfl, _, rfl, _, _, rfl, rfl, (by show 0 < y; omega), _, _, rfl, ⟨rfl, y, x % y, rfl, hy, t.1, t.2⟩, ?_⟩
        have := Int.emod_lt_of_pos x (show 0 < y by omega)
        have := t.1
        show (x % y).toNat < y.toNat
        omega
      · have hy0 : y = 0 := by
          have : ¬ 0 < y := fun z => hc (decide_eq_true z)
          omega
        subst hy0
        rw [G_zero hx] at e
        subst e
        have g := low_small (t := a) hb bb
        refine ⟨_, rfl, _, rfl, _, _, rfl, rfl, g, _, rfl, _, rfl, _, _, rfl, rfl, g, (by show 2 ≤ sizeLine; decide), fun p hp => ?_⟩
        exact k p _ (Same.upd hp) hp upd_same
    · rintro σ H' Q1 Q2 hq ⟨v, e, i, j, e1, e2, z, ez, q⟩
      exact ⟨v, e, i, j, e1, e2, z, ez, hq _ _ q⟩
theorem scDigit : FnScope ["_law_left", "_law_many", "_law_found"] ["_law_left", "_law_many"] (defScope sDigit) := ⟨rfl, rfl, rfl, by decide +kernel, rfl, by decide +kernel, by decide +kernel⟩
theorem ok_digit {f : Addr} {fd : FuncData} (F : Fun K "_law_digit" "_law_digit" sDigit f fd) : FnOk P w K mg base CX0 1 f fd ["_law_left", "_law_many"] spDigit := by
  refine F.ok scDigit (fun vs H Q E h => ?_) (fun cdv A outer s H vs Q E hr h => ?_)
  · obtain ⟨_, _, rfl, _⟩ := h
    rfl
  · obtain ⟨a, m, rfl, ⟨n, ha, n0⟩, m1, bm, k⟩ := h
    refine ⟨_, (pss_cons (ps_set (i := 2) scDigit.nd rfl (Or.inl rfl) (pe_op op_mod (pe_ix ix_list (pv 0) pe_int (fun _ _ => rfl)) (pv 1)))
      (pss_cons (ps_asg (pe_op op_fdivB (pe_ix ix_list (pv 0) pe_int (fun _ _ => rfl)) (pv 1)) (pg_sub (pv 0) pe_int set_list))
      (pss_one (ps_ret (pv 2))))), ?_⟩
    refine ⟨_, rfl, a, _, 0, .int n, rfl, rfl, SqL.of ha, atI_nat (j := 0) rfl, _, rfl, _, _, rfl, rfl, (by show 0 < m; omega), ?_⟩
    refine ⟨_, rfl, a, _, 0, .int n, rfl, rfl, SqL.of ha, atI_nat (j := 0) rfl, _, rfl, _, _, rfl, rfl, ⟨by omega, bm⟩, _, rfl, a, _, 0, 0, rfl, rfl, ha, rfl, ?_⟩
    have e := emod_in n (show (0 : Int) < m by omega)
    exact ⟨_, rfl, k _ _ e.1 e.2 SmB.upd ⟨_, upd_same, Int.ediv_nonneg n0 (by omega)⟩⟩
theorem scMuch : FnScope ["_law_number"] ["_law_number"] (defScope sMuch) := ⟨rfl, rfl, rfl, by decide +kernel, rfl, by decide +kernel, by decide +kernel⟩
theorem ok_much {f : Addr} {fd : FuncData} (F : Fun K "_law_much" "_law_much" sMuch f fd) (cL : Cal P w K mg base CX0 1 "_law_lowest" ["_law_top", "_law_bottom"] spLowest) : FnOk P w K mg base CX0 2 f fd ["_law_number"] spMuch := by
  refine F.ok scMuch (fun vs H Q E h => ?_) (fun cdv A outer s H vs Q E hr h => ?_)
  · obtain ⟨_, rfl, _⟩ := h
    rfl
  · obtain ⟨n, rfl, n0, nl, k⟩ := h
    refine ⟨_, (pss_cons (ps_if (pt_cmpR op_eq (pe_op op_mod (pv 0) pe_int) pe_int (nomark _))
        (pss_one (ps_ret (pe_cal cL hr rfl pass0 (pa_cons (pe_op op_add pe_int (pe_op op_mod (pe_op op_mulB (pe_op op_fdivB (pv 0) pe_int) pe_int) (pe_op op_powB pe_int pe_int))) (pa_cons (pe_op op_add pe_int (pe_op op_mod (pe_op op_fdivB (pv 0) pe_int) pe_int)) pa_nil)))))
        pss_nil)
      (pss_one (ps_ret (pe_cal cL hr rfl pass0 (pa_cons (pe_op op_add pe_int (pe_op op_mod (pe_op op_fdivB (pv 0) pe_int) pe_int)) (pa_cons (pe_op op_add pe_int (pe_op op_mod (pe_op op_fdivB (pv 0) pe_int) pe_int)) pa_nil)))))), ?_⟩
    have q0 : 0 ≤ n / 4 := Int.ediv_nonneg n0 (by decide)
    have ql : n / 4 < 2147483647 := Int.lt_of_le_of_lt (Int.ediv_le_self _ n0) nl
    have bq : Bt 64 (n / 4) := bt_lt 64 q0 (Int.lt_trans ql (by decide : (2147483647 : Int) < 2147483648))
    have e1 := emod_in (n / 4) (m := 12) (by decide)
    have e2 := emod_in (n / 48) (m := 12) (by decide)
    refine ⟨_, rfl, _, _, rfl, rfl, (by show (0 : Int) < 4; decide), rfl, _, rfl, ite2 (fun _ => ?_) (fun _ => ?_)⟩
    · refine ⟨_, rfl, _, _, rfl, rfl, ⟨by decide, b9⟩, _, _, rfl, rfl, ⟨b6 bq, bl⟩, _, _, rfl, rfl, ⟨by decide, by decide, bk⟩, _, _, rfl, rfl, ?_, _, _, rfl, rfl, _, rfl, _, _, rfl, rfl, ⟨by decide, b9⟩, _, _, rfl, rfl, (by show (0 : Int) < 12; decide), _, _, rfl, rfl, ?_⟩
      · rw [e18]
        show (0 : Int) < 1000000000000000000
        decide
      · rw [e18]
        have e3 := emod_in (n / 4 * 69621) (m := 1000000000000000000) (by decide)
        exact ⟨_, _, rfl, by omega, by omega, b9 (by omega) (by omega), fun p H' sm np hp => k _ _ p H' (low_rm (by omega) (by omega) (bt_lt 63 (c := 2000000000000000000) (by omega) (by omega)) (bt_lt 63 (c := 2000000000000000000) (by omega) (by omega))) sm np hp⟩
    · refine ⟨_, rfl, _, _, rfl, rfl, ⟨by decide, b9⟩, _, _, rfl, rfl, (by show (0 : Int) < 12; decide), _, _, rfl, rfl, _, rfl, _, _, rfl, rfl, ⟨by decide, b9⟩, _, _, rfl, rfl, (by show (0 : Int) < 12; decide), _, _, rfl, rfl, ?_⟩
      exact ⟨_, _, rfl, by omega, by omega, b9 (by omega) (by omega), fun p H' sm np hp => k _ _ p H' (low_rm (by omega) (by omega) (bt_lt 63 (c := 2000000000000000000) (by omega) (by omega)) (bt_lt 63 (c := 2000000000000000000) (by omega) (by omega))) sm np hp⟩
end
end K43

namespace K43
open PySem PySem.Spec PyProof.Rows L2 GM TM
def one (c : Nat) : Str := ⟨#[c]⟩
theorem cps_one (c : Nat) : cps (one c) = [c] := rfl
theorem wr_one {c : Nat} (h : 97 ≤ c ∧ c ≤ 122) : Wr (one c) := ⟨(by show 1 ≤ 1; decide), (by show 1 ≤ 8; decide), fun x hx => by
  rw [cps_one] at hx
  rw [List.mem_singleton.mp hx]
  exact h⟩
theorem one_inj {c d : Nat} (e : one c = one d) : c = d := by
  have := congrArg cps e
  rw [cps_one, cps_one] at this
  exact (List.cons.inj this).1
def spWares : Sp := fun vs H Q _ => ∃ c : Int, vs = [.int c] ∧ ∀ (ws : List Str) p H', ws.length = 6 → ws.Nodup → (∀ x ∈ ws, Wr x) → Same H H' → H p = none → H' p = some (.lst (ws.map V.str)) → Q (.ref p) H'
section
variable {P : Program} {w : World} {K : PySem.W.Frag} {mg : Str → Option Value} {base : Heap}
theorem scNames : FnScope ["_law_left", "_law_letters", "_law_found", "_law_k", "_law_word", "_law_j", "_law_tail"] ["_law_left"] (defScope sNames) := ⟨rfl, rfl, rfl, by decide +kernel, rfl, by decide +kernel, by decide +kernel⟩
theorem ok_names {f : Addr} {fd : FuncData} (F : Fun K "_law_names" "_law_names" sNames f fd) (T : Txt mg) (cD : Cal P w K mg base CX0 1 "_law_digit" ["_law_left", "_law_many"] spDigit) : FnOk P w K mg base CX0 2 f fd ["_law_left"] spNames := by
  refine F.ok scNames (fun vs H Q E h => ?_) (fun cdv A outer s H vs Q E hr h => ?_)
  · obtain ⟨_, rfl, _⟩ := h
    rfl
  · obtain ⟨a, rfl, lf, k⟩ := h
    refine ⟨_, (pss_cons (ps_set (i := 1) scNames.nd rfl (Or.inl rfl) pe_str)
      (pss_cons (ps_set (i := 2) scNames.nd rfl (Or.inl rfl) (pe_lst pa_nil))
      (pss_cons (ps_for PassesOwn.never rfl (pi_range1 rfl T.range (pa_cons pe_int pa_nil)) (pg_name (i := 3) scNames.nd rfl (Or.inl rfl))
        (pss_cons (ps_set (i := 4) scNames.nd rfl (Or.inl rfl) pe_str)
        (pss_cons (ps_for PassesOwn.never rfl (pi_range1 rfl T.range (pa_cons (pe_op op_add pe_int (pe_cal cD hr rfl pass0 (pa_cons (pv 0) (pa_cons pe_int pa_nil)))) pa_nil)) (pg_name (i := 5) scNames.nd rfl (Or.inl rfl))
          (pss_one (ps_set (i := 4) scNames.nd rfl (Or.inl rfl) (pe_op op_add_str (pv 4) (pe_ix ix_str (pv 1) (pe_cal cD hr rfl pass0 (pa_cons (pv 0) (pa_cons pe_int pa_nil))) (fun _ _ => rfl))))))
        (pss_cons (ps_for PassesOwn.never rfl (pi_str (pv 1)) (pg_name (i := 6) scNames.nd rfl (Or.inl rfl))
          (pss_one (ps_if (pt_cmpR op_in_seq (pv 4) (pv 2) rfl) (pss_one (ps_set (i := 4) scNames.nd rfl (Or.inl rfl) (pv 6))) pss_nil)))
        (pss_one (ps_expr (pe_bm PySem.F.plainAttrs_list PySem.F.slot_list_append PySem.F.type_list_append mt_append (pv 2) (pa_cons (pv 4) pa_nil))))))))
      (pss_one (ps_ret (pv 2)))))), ?_⟩
    have zL : LET.length ≤ sizeLine := by decide +kernel
    refine ⟨(by show 0 ≤ sizeLine; decide), fun p hp => ?_⟩
    have pa : p ≠ a := lf.there hp
    refine ⟨6, rfl, by decide, by decide, ?_⟩
    refine for_range (fun i σ H' => ∃ (ws : List Str) (v3 v4 v5 v6 : Option V), σ = [some (.ref a), some (.str LET), some (.ref p), v3, v4, v5, v6] ∧ ws.length = i ∧ ws.Nodup ∧ (∀ x ∈ ws, Wr x) ∧ SmB a H H' ∧ Lf H' a ∧ H' p = some (.lst (ws.map V.str)))
      ⟨[], none, none, none, none, rfl, rfl, List.nodup_nil, (fun _ h => nomatch h), SmB.refl.own hp, lf.own pa, upd_same⟩ ?_ ?_
    · rintro i σ H2 hi ⟨ws, v3, v4, v5, v6, rfl, wl, nd, wr, s2, lf2, hp2⟩
      have hi6 : i < 6 := hi
      refine ⟨_, rfl, a, 8, rfl, lf2, by decide, b9, fun e H3 e0 el s3 lf3 => ⟨_, _, rfl, rfl, 1 + e, rfl, by omega, by omega, ?_⟩⟩
      refine for_range (fun j σ H' => ∃ (x : Str) (v5 : Option V), σ = [some (.ref a), some (.str LET), some (.ref p), some (.int (0 + i)), some (.str x), v5, v6] ∧ x.length = j ∧ (∀ c ∈ cps x, 97 ≤ c ∧ c ≤ 122) ∧ SmB a H H' ∧ Lf H' a ∧ H' p = some (.lst (ws.map V.str)))
        ⟨"", v5, rfl, rfl, (fun _ h => nomatch h), s2.trans s3, lf3, s3 _ _ pa hp2⟩ ?_ ?_
      · rintro j σ H4 hj ⟨x, u5, rfl, xl, xc, s4, lf4, hp4⟩
        refine ⟨_, rfl, _, rfl, _, rfl, a, 26, rfl, lf4, by decide, b9, fun g H5 g0 gl s5 lf5 => ?_⟩
        obtain ⟨gn, rfl⟩ := Int.eq_ofNat_of_zero_le g0
        have lx : x.length ≤ 8 := by omega
        refine ⟨LET, (gn : Int), 97 + gn, rfl, rfl, zL, atI_nat (at_let (by omega)), _, _, rfl, rfl, sz1000 (by show x.length + 1 ≤ 1000; omega), ?_⟩
        refine ⟨_, _, rfl, ?_, fun c hc => ?_, s4.trans s5, lf5, s5 _ _ pa hp4⟩
        · rw [lenA, xl]
          rfl
        · rw [cps_append'] at hc
          rcases List.mem_append.mp hc with h | h
          · exact xc c h
          · have : c = 97 + gn := by simpa [cps] using h
            omega
      · rintro σ H4 ⟨x, u5, rfl, xl, xc, s4, lf4, hp4⟩
        have wx : Wr x := ⟨by omega, by omega, xc⟩
        refine ⟨_, rfl, LET, rfl, ?_⟩
        refine for_str (fun j σ H' => ∃ (y : Str) (v6 : Option V), σ = [some (.ref a), some (.str LET), some (.ref p), some (.int (0 + i)), some (.str y), u5, v6] ∧ H' = H4 ∧ Wr y ∧ (y ∉ ws ∨ j = 0 ∨ ∃ q, j = q + 1 ∧ y = one (97 + q) ∧ ∀ r, r < q → one (97 + r) ∈ ws)) ⟨x, v6, rfl, rfl, wx, .inr (.inl rfl)⟩ ?_ ?_
        · rintro j c σ H5 hc ⟨y, v6', rfl, rfl, wy, inv⟩
          have hj : j < 26 := by
            have := (Array.getElem?_eq_some_iff.mp hc).1
            exact this
          have ec : c = 97 + j := by
            have h1 := at_let hj
            have h2 : (cps LET)[j]? = some c := by simpa [cps] using hc
            rw [h1] at h2
            exact (Option.some.inj h2).symm
          subst ec
          refine ⟨_, rfl, _, rfl, p, _, rfl, .inl (SqL.of hp4), rfl, flat_strs ws, _, rfl, ite2 (fun hin => ?_) (fun hno => ?_)⟩
          · have hin' : y ∈ ws := in_strs.mp hin
            refine ⟨_, rfl, one (97 + j), _, rfl, rfl, wr_one (by omega), .inr (.inr ⟨j, rfl, rfl, fun r hr => ?_⟩)⟩
            rcases inv with h | h | ⟨q, e, ey, h⟩
            · exact absurd hin' h
            · omega
            · by_cases z : r = q
              · rw [z, ← ey]
                exact hin'
              · exact h r (by omega)
          · exact ⟨y, _, rfl, rfl, wy, .inl fun z => hno (in_strs.mpr z)⟩
        · rintro σ H5 ⟨y, v6', rfl, rfl, wy, inv⟩
          have ny : y ∉ ws := by
            rcases inv with h | h | ⟨q, e, ey, h⟩
            · exact h
            · exact absurd h (by decide)
            · exfalso
              have q25 : q = 25 := by
                have : LET.cps.size = 26 := by decide +kernel
                omega
              have := pigeon (fun r => one (97 + r)) 25 ws (fun r hr => h r (by omega)) (fun r1 r2 _ _ e => by have := one_inj e; omega)
              omega
          refine ⟨_, rfl, .inl ⟨rfl, _, SqL.of hp4⟩, _, rfl, p, _, _, rfl, rfl, hp4, small1000 (by rw [List.length_map]; omega), ?_⟩
          refine ⟨ws ++ [y], _, _, _, _, rfl, by rw [List.length_append, wl]; rfl, nodup_snoc nd ny, fun z hz => ?_, s4.own hp, lf4.own pa, by rw [List.map_append]; exact upd_same⟩
          rcases List.mem_append.mp hz with h | h
          · exact wr z h
          · rw [List.mem_singleton.mp h]
            exact wy
    · rintro σ H2 ⟨ws, v3, v4, v5, v6, rfl, wl, nd, wr, s2, lf2, hp2⟩
      exact ⟨_, rfl, k ws p H2 wl nd wr s2 hp pa hp2⟩
theorem ndW1 : (["_law_tail", "_law_word"] : List Str).Nodup := by decide +kernel
theorem ndW2 : (["_law_k", "_law_word", "_law_letters", "_law_number"] : List Str).Nodup := by decide +kernel
abbrev tails : List Str := ["", "a", "aa", "ab", "b", "ba"]
theorem cps_inj {x y : Str} (h : cps x = cps y) : x = y := by
  obtain ⟨⟨x⟩⟩ := x
  obtain ⟨⟨y⟩⟩ := y
  simp [cps] at h
  rw [h]
theorem app_inj {x y z : Str} (h : x ++ y = x ++ z) : y = z := by
  have := congrArg cps h
  rw [cps_append', cps_append'] at this
  exact cps_inj (List.append_cancel_left this)
theorem wr_app {x y : Str} (l1 : 1 ≤ x.length) (l : x.length + y.length ≤ 8) (hx : ∀ c ∈ cps x, 97 ≤ c ∧ c ≤ 122) (hy : ∀ c ∈ cps y, 97 ≤ c ∧ c ≤ 122) : Wr (x ++ y) := by
  refine ⟨by rw [lenA]; omega, by rw [lenA]; exact l, fun c hc => ?_⟩
  rw [cps_append'] at hc
  rcases List.mem_append.mp hc with h | h
  · exact hx c h
  · exact hy c h
theorem tails_ok : ∀ t ∈ tails, t.length ≤ 2 ∧ ∀ c ∈ cps t, 97 ≤ c ∧ c ≤ 122 := by decide +kernel
theorem tails_nd : tails.Nodup := by decide +kernel
theorem strs_eq {ys : List V} {ws : List Str} (hl : ys.length = ws.length) (h : ∀ (i : Nat) y b, ys[i]? = some y → ws[i]? = some b → y = .str b) : ys = ws.map V.str := by
  refine list_eq (by rw [List.length_map]; exact hl) fun i x y hx hy => ?_
  rw [List.getElem?_map] at hx
  cases e : ws[i]? with
  | none => rw [e] at hx; cases hx
  | some b =>
    rw [e] at hx
    cases hx
    exact h i y b hy e
theorem nodup_map {α β : Type} {f : α → β} : ∀ {l : List α}, (∀ x ∈ l, ∀ y ∈ l, f x = f y → x = y) → l.Nodup → (l.map f).Nodup
  | [], _, _ => List.nodup_nil
  | x :: r, h, n => by
    rw [List.nodup_cons] at n
    rw [List.map_cons, List.nodup_cons]
    refine ⟨fun z => ?_, nodup_map (fun a ha b hb => h a (List.mem_cons_of_mem _ ha) b (List.mem_cons_of_mem _ hb)) n.2⟩
    obtain ⟨y, hy, e⟩ := List.mem_map.mp z
    have := h y (List.mem_cons_of_mem _ hy) x (List.mem_cons_self ..) e
    rw [this] at hy
    exact n.1 hy
theorem scWares : FnScope ["_law_cell", "_law_letters", "_law_number", "_law_word", "_law_k"] ["_law_cell"] (defScope sWares) := ⟨rfl, rfl, rfl, by decide +kernel, rfl, by decide +kernel, by decide +kernel⟩
theorem ok_wares {f : Addr} {fd : FuncData} (F : Fun K "_law_wares" "_law_wares" sWares f fd) (T : Txt mg) (cN : Cal P w K mg base CX0 2 "_law_names" ["_law_left"] spNames) (cM : Cal P w K mg base CX0 2 "_law_mixed" ["_law_cell", "_law_k"] spMixed) : FnOk P w K mg base CX0 3 f fd ["_law_cell"] spWares := by
  refine F.ok scWares (fun vs H Q E h => ?_) (fun cdv A outer s H vs Q E hr h => ?_)
  · obtain ⟨_, rfl, _⟩ := h
    rfl
  · obtain ⟨c, rfl, k⟩ := h
    refine ⟨_, (pss_cons (ps_set (i := 1) scWares.nd rfl (Or.inr rfl) pe_str)
      (pss_cons (ps_if (pt_cmpR op_eq (pe_op op_mod (pv 0) pe_int) pe_int (nomark _))
        (pss_one (ps_ret (pe_cal cN hr rfl pass0 (pa_cons (pe_lst (pa_cons (pe_op op_fdivB (pe_callB call_abs rfl T.abs' bt_abs (pa_cons (pv 0) pa_nil)) pe_int) pa_nil)) pa_nil))))
        pss_nil)
      (pss_cons (ps_set (i := 2) scWares.nd rfl (Or.inr rfl) (pe_cal cM hr rfl pass0 (pa_cons (pv 0) (pa_cons pe_int pa_nil))))
      (pss_cons (ps_set (i := 3) scWares.nd rfl (Or.inr rfl) pe_str)
      (pss_cons (ps_for PassesOwn.never rfl (pi_range1 rfl T.range (pa_cons (pe_op op_add pe_int (pe_op op_mod (pv 2) pe_int)) pa_nil)) (pg_name (i := 4) scWares.nd rfl (Or.inl rfl))
        (pss_one (ps_set (i := 3) scWares.nd rfl (Or.inr rfl) (pe_op op_add_str (pv 3) (pe_ix ix_str (pv 1) (pe_op op_mod (pe_op op_fdivB (pe_cal cM hr rfl pass0 (pa_cons (pv 0) (pa_cons (pe_op op_add (pv 4) pe_int) pa_nil))) pe_int) pe_int) (fun _ _ => rfl))))))
      (pss_cons (ps_if (pt_cmpR op_eq (pe_op op_mod (pe_op op_fdivB (pv 2) pe_int) pe_int) pe_int (nomark _))
        (pss_one (ps_ret (pe_compC (N' := ["_law_tail", "_law_word"]) (fun σ => [none, some 3].map fun t => t.bind fun j => (σ[j]?).join) rfl rfl (by decide +kernel) (by decide +kernel)
          (hk_of (sc := defScope sWares) rfl (by decide +kernel)) (fun _ _ _ => blkN_by (sc := defScope sWares) (N := ["_law_cell", "_law_letters", "_law_number", "_law_word", "_law_k"]) [none, some 3] rfl rfl rfl rfl (by decide +kernel))
          (pi_tup (pe_tup (pa_cons pe_str (pa_cons pe_str (pa_cons pe_str (pa_cons pe_str (pa_cons pe_str (pa_cons pe_str pa_nil)))))))) (fun _ _ _ _ _ _ => pg_name (i := 0) ndW1 rfl (Or.inl rfl)) (fun _ _ _ _ _ _ => pifs_nil)
          (fun _ _ _ _ _ _ => pe_op op_add_str (pv 1) (pv 0)))))
        pss_nil)
      (pss_one (ps_ret (pe_compC (N' := ["_law_k", "_law_word", "_law_letters", "_law_number"]) (fun σ => [none, some 3, some 1, some 2].map fun t => t.bind fun j => (σ[j]?).join) rfl rfl (by decide +kernel) (by decide +kernel)
          (hk_of (sc := defScope sWares) rfl (by decide +kernel)) (fun _ _ _ => blkN_by (sc := defScope sWares) (N := ["_law_cell", "_law_letters", "_law_number", "_law_word", "_law_k"]) [none, some 3, some 1, some 2] rfl rfl rfl rfl (by decide +kernel))
          (pi_range1 rfl T.range (pa_cons pe_int pa_nil)) (fun _ _ _ _ _ _ => pg_name (i := 0) ndW2 rfl (Or.inl rfl)) (fun _ _ _ _ _ _ => pifs_nil)
          (fun _ _ _ _ _ _ => pe_op op_add_str (pv 1) (pe_ix ix_str (pv 2) (pe_op op_mod (pe_op op_add (pe_op op_fdivB (pv 3) pe_int) (pe_op op_mulB pe_int (pv 0))) pe_int) (fun _ _ => rfl)))))))))))), ?_⟩
    have zL : LET.length ≤ sizeLine := by decide +kernel
    refine ⟨_, rfl, _, _, rfl, rfl, (by show (0 : Int) < 2; decide), rfl, _, rfl, ite2 (fun _ => ?_) (fun _ => ?_)⟩
    · refine ⟨_, rfl, c, rfl, ?_⟩
      have ha : 0 ≤ (if c < 0 then -c else c) := by split <;> omega
      generalize (if c < 0 then -c else c) = n at *
      refine ⟨_, _, rfl, rfl, ⟨by decide, b9⟩, (by show 1 ≤ sizeLine; decide), fun z hz => ⟨z, rfl, ⟨_, upd_same, Int.ediv_nonneg ha (by decide)⟩, fun ws p H' wl nd wr sm hp pz hp' => ?_⟩⟩
      have hpn : H p = none := by
        cases e : H p with
        | none => rfl
        | some o =>
          have := Same.upd (o := .lst [.int (n / 2)]) hz _ _ e
          rw [hp] at this
          cases this
      exact k ws p H' wl nd wr (fun b o e => sm b o (fun q => by rw [q, hz] at e; cases e) (Same.upd hz _ _ e)) hpn hp'
    refine ⟨_, rfl, c, 0, rfl, by decide, by decide, fun n n0 nl => ?_⟩
    have e5 := emod_in n (m := 5) (by decide)
    refine ⟨_, rfl, _, _, rfl, rfl, (by show (0 : Int) < 5; decide), _, _, rfl, rfl, _, rfl, by omega, by omega, ?_⟩
    refine for_range (fun i σ H' => ∃ (x : Str) (v4 : Option V), σ = [some (.int c), some (.str LET), some (.int n), some (.str x), v4] ∧ x.length = i ∧ (∀ d ∈ cps x, 97 ≤ d ∧ d ≤ 122) ∧ H' = H) ⟨"", none, rfl, rfl, (fun _ h => nomatch h), rfl⟩ ?_ ?_
    · rintro i σ H' hi ⟨x, v4, rfl, xl, xc, rfl⟩
      refine ⟨_, rfl, _, rfl, _, rfl, _, rfl, _, _, rfl, rfl, c, _, rfl, by omega, by omega, fun m m0 ml => ?_⟩
      have e := emod_in (m / 64) (m := 26) (by decide)
      obtain ⟨gn, hg⟩ := Int.eq_ofNat_of_zero_le e.1
      refine ⟨_, _, rfl, rfl, ⟨by decide, b9⟩, _, _, rfl, rfl, (by show (0 : Int) < 26; decide), LET, _, 97 + gn, rfl, rfl, zL, (by rw [hg]; exact atI_nat (at_let (by omega))), _, _, rfl, rfl, sz1000 (by show x.length + 1 ≤ 1000; omega), ?_⟩
      refine ⟨_, _, rfl, ?_, fun d hd => ?_, rfl⟩
      · rw [lenA, xl]
        rfl
      · rw [cps_append'] at hd
        rcases List.mem_append.mp hd with h | h
        · exact xc d h
        · have : d = 97 + gn := by simpa [cps] using h
          omega
    · rintro σ H' ⟨x, v4, rfl, xl, xc, rfl⟩
      have xl1 : 1 ≤ x.length := by omega
      have xl5 : x.length ≤ 5 := by omega
      refine ⟨_, rfl, _, _, rfl, rfl, ⟨by decide, b9⟩, _, _, rfl, rfl, (by show (0 : Int) < 2; decide), rfl, _, rfl, ite2 (fun _ => ?_) (fun _ => ?_)⟩
      · refine ⟨(by show 6 ≤ sizeLine; decide), fun q hq => ⟨q, rfl, ⟨_, SqT.of upd_same⟩, fun D hD => ?_⟩⟩
        refine comp_rel (Ys.tup (xs := tails.map V.str) (SqT.of upd_same)) (fun i _ y _ => ∀ t, tails[i]? = some t → y = .str (x ++ t)) (fun _ _ _ _ _ h _ => h) hD (by decide) (fun i y H2 R hy sm hR => ?_) (fun ys H2 sm hD' yl hy => ?_)
        · rw [List.getElem?_map] at hy
          cases et : tails[i]? with
          | none => rw [et] at hy; cases hy
          | some t =>
            rw [et] at hy
            cases hy
            have := (tails_ok t (List.mem_of_getElem? et)).1
            refine ⟨(Keep.refl _).set rfl, _, rfl, _, rfl, _, _, rfl, rfl, sz1000 (by omega), hR _ _ (Same.refl _) fun t' e' => ?_⟩
            rw [et] at e'
            cases e'
            rfl
        · have ey := strs_eq (ws := tails.map fun t => x ++ t) (yl.trans (by rfl)) fun i y b h1 h2 => by
            rw [List.getElem?_map] at h2
            cases et : tails[i]? with
            | none => rw [et] at h2; cases h2
            | some t =>
              rw [et] at h2
              cases h2
              exact hy i (.str t) y (by rw [List.getElem?_map, et]; rfl) h1 t et
          subst ey
          refine k _ D H2 rfl (nodup_map (fun a _ b _ e => app_inj e) tails_nd) (fun z hz => ?_) ((Same.upd hq).trans sm) ?_ hD'
          · obtain ⟨t, ht, rfl⟩ := List.mem_map.mp hz
            have tt := tails_ok t ht
            exact wr_app xl1 (by omega) xc tt.2
          · cases e : H' D with
            | none => rfl
            | some o =>
              have h9 : upd H' q (.tup (tails.map V.str)) D = none := hD
              have := Same.upd (o := .tup (tails.map V.str)) hq _ _ e
              rw [h9] at this
              cases this
      · refine ⟨6, rfl, by decide, by decide, fun D hD => ?_⟩
        refine comp_rel (Ys.rng (lo := 0) (n := 6)) (fun i _ y _ => y = .str (x ++ one (97 + ((n / 10 + 3 * ((0 : Int) + i)) % 26).toNat))) (fun _ _ _ _ _ h _ => h) hD (by decide) (fun i y H2 R hy sm hR => ?_) (fun ys H2 sm hD' yl hy => ?_)
        · obtain ⟨hi, rfl⟩ := rngV_get hy
          have e := emod_in (n / 10 + 3 * ((0 : Int) + i)) (m := 26) (by decide)
          have bi : Bt 64 ((0 : Int) + i) := bt_lt 64 (c := 100) (by omega) (by omega)
          obtain ⟨gn, hg⟩ := Int.eq_ofNat_of_zero_le e.1
          refine ⟨(Keep.refl _).set rfl, _, rfl, _, rfl, _, rfl, _, _, rfl, rfl, ⟨by decide, b9⟩, _, rfl, _, _, rfl, rfl, ⟨bl, b6 bi⟩, _, _, rfl, rfl, _, _, rfl, rfl, (by show (0 : Int) < 26; decide), LET, _, 97 + gn, rfl, rfl, zL, (by rw [hg]; exact atI_nat (at_let (by omega))), _, _, rfl, rfl, sz1000 (by show x.length + 1 ≤ 1000; omega), hR _ _ (Same.refl _) ?_⟩
          rw [hg]
          rfl
        · have ey := strs_eq (ws := (List.range 6).map fun i => x ++ one (97 + ((n / 10 + 3 * ((0 : Int) + (i : Nat))) % 26).toNat)) (yl.trans (by rfl)) fun i y b h1 h2 => by
            rw [List.getElem?_map] at h2
            cases et : (List.range 6)[i]? with
            | none => rw [et] at h2; cases h2
            | some t =>
              rw [et] at h2
              cases h2
              have ti : i = t := by
                obtain ⟨hl, e⟩ := List.getElem?_eq_some_iff.mp et
                simpa using e
              subst ti
              obtain ⟨v, hv⟩ : ∃ v, (rngV 0 6)[i]? = some v := ⟨_, List.getElem?_eq_getElem (by rw [rngV_len]; have := (List.getElem?_eq_some_iff.mp et).1; simpa using this)⟩
              exact hy i v y hv h1
          subst ey
          refine k _ D H2 rfl (nodup_map (fun a ha b hb e => ?_) List.nodup_range) (fun z hz => ?_) sm hD hD'
          · have h1 := one_inj (app_inj e)
            have ha' := List.mem_range.mp ha
            have hb' := List.mem_range.mp hb
            omega
          · obtain ⟨t, ht, rfl⟩ := List.mem_map.mp hz
            have e := emod_in (n / 10 + 3 * ((0 : Int) + (t : Nat))) (m := 26) (by decide)
            refine wr_app xl1 (by show x.length + 1 ≤ 8; omega) xc (fun d hd => ?_)
            rw [cps_one] at hd
            rw [List.mem_singleton.mp hd]
            omega
end
end K43

namespace TR
open PySem PySem.Spec PyProof.Rows L2 GM
theorem seq_nx {t u : TS} {D : Ends} {σ : L2.St} {H : Hp} (S : L2.St → Hp → Prop) (h : ∀ σ' H', S σ' H' → u D σ' H') (g : ∀ N : L2.St → Hp → Prop, (∀ σ' H', S σ' H' → N σ' H') → t { D with nx := N } σ H) : tSeq t u D σ H := g (u D) h
theorem seq_nx2 {t1 t2 u : TS} {D : Ends} {σ : L2.St} {H : Hp} (S : L2.St → Hp → Prop) (h : ∀ σ' H', S σ' H' → u D σ' H') (g : ∀ N : L2.St → Hp → Prop, (∀ σ' H', S σ' H' → N σ' H') → tSeq t1 t2 { D with nx := N } σ H) : tSeq t1 (tSeq t2 u) D σ H := g (u D) h
/-! ### the two largest of a list, noughts standing by -/
def Top2 (l : List Int) (f s : Int) : Prop := ∃ r, (l ++ [0, 0]).Perm (f :: s :: r) ∧ s ≤ f ∧ ∀ x ∈ r, x ≤ s
theorem Top2.uniq {l : List Int} {f s f' s' : Int} (h : Top2 l f s) (h' : Top2 l f' s') : f = f' ∧ s = s' := by
  obtain ⟨r, p, a, b⟩ := h
  obtain ⟨r', p', a', b'⟩ := h'
  have q : (f :: s :: r).Perm (f' :: s' :: r') := p.symm.trans p'
  have m1 : f ∈ f' :: s' :: r' := q.mem_iff.mp (List.mem_cons_self ..)
  have m2 : f' ∈ f :: s :: r := q.mem_iff.mpr (List.mem_cons_self ..)
  have ef : f = f' := by
    have u1 : f ≤ f' := by
      rcases List.mem_cons.mp m1 with h | h
      · omega
      · rcases List.mem_cons.mp h with h | h
        · omega
        · have := b' _ h; omega
    have u2 : f' ≤ f := by
      rcases List.mem_cons.mp m2 with h | h
      · omega
      · rcases List.mem_cons.mp h with h | h
        · omega
        · have := b _ h; omega
    omega
  subst ef
  have q2 : (s :: r).Perm (s' :: r') := (List.perm_cons f).mp q
  have n1 : s ∈ s' :: r' := q2.mem_iff.mp (List.mem_cons_self ..)
  have n2 : s' ∈ s :: r := q2.mem_iff.mpr (List.mem_cons_self ..)
  refine ⟨rfl, ?_⟩
  have u1 : s ≤ s' := by
    rcases List.mem_cons.mp n1 with h | h
    · omega
    · exact b' _ h
  have u2 : s' ≤ s := by
    rcases List.mem_cons.mp n2 with h | h
    · omega
    · exact b _ h
  omega
theorem Top2.nil : Top2 [] 0 0 := ⟨[], List.Perm.refl _, by decide, fun x h => nomatch h⟩
theorem Top2.base {l : List Int} {f s : Int} (h : Top2 l f s) : 0 ≤ s := by
  obtain ⟨r, p, a, b⟩ := h
  have c : (l ++ [0, 0]).countP (fun x => decide (0 ≤ x)) ≥ 2 := by
    rw [List.countP_append]
    have : List.countP (fun x : Int => decide (0 ≤ x)) [0, 0] = 2 := by decide
    omega
  rw [p.countP_eq] at c
  by_cases hs : 0 ≤ s
  · exact hs
  · exfalso
    have z : r.countP (fun x => decide (0 ≤ x)) = 0 := by
      rw [List.countP_eq_zero]
      intro x hx
      have := b x hx
      simp
      omega
    rw [List.countP_cons, List.countP_cons, z] at c
    have hs' : decide (0 ≤ s) = false := decide_eq_false hs
    rw [hs'] at c
    by_cases hf : 0 ≤ f <;> simp [hf] at c
theorem snoc_perm {l : List Int} {x : Int} : ((l ++ [x]) ++ [0, 0]).Perm (x :: (l ++ [0, 0])) := by
  rw [List.append_assoc]
  exact List.perm_middle
theorem Top2.up {l : List Int} {f s x : Int} (h : Top2 l f s) (hx : f < x) : Top2 (l ++ [x]) x f := by
  obtain ⟨r, p, a, b⟩ := h
  refine ⟨s :: r, snoc_perm.trans (p.cons x), by omega, fun y hy => ?_⟩
  rcases List.mem_cons.mp hy with h | h
  · omega
  · have := b y h; omega
theorem Top2.mid {l : List Int} {f s x : Int} (h : Top2 l f s) (h1 : x ≤ f) (h2 : s ≤ x) : Top2 (l ++ [x]) f x := by
  obtain ⟨r, p, a, b⟩ := h
  refine ⟨s :: r, snoc_perm.trans ((p.cons x).trans (List.Perm.swap f x _)), by omega, fun y hy => ?_⟩
  rcases List.mem_cons.mp hy with h | h
  · omega
  · have := b y h; omega
theorem Top2.low {l : List Int} {f s x : Int} (h : Top2 l f s) (h1 : x ≤ s) : Top2 (l ++ [x]) f s := by
  obtain ⟨r, p, a, b⟩ := h
  refine ⟨x :: r, snoc_perm.trans ((p.cons x).trans ((List.Perm.swap f x _).trans ((List.Perm.swap s x _).cons f))), a, fun y hy => ?_⟩
  rcases List.mem_cons.mp hy with h | h
  · omega
  · exact b y h
theorem Top2.one {l : List Int} {a : Int} (p : [a].Perm l) (h : 0 ≤ a) : Top2 l a 0 :=
  ⟨[0], (p.symm.append_right [0, 0]).trans (List.Perm.refl _), h, fun x hx => by rw [List.mem_singleton.mp hx]; exact Int.le_refl _⟩
theorem Top2.two {l r : List Int} {a b : Int} (p : (a :: b :: r).Perm l) (pw : (a :: b :: r).Pairwise (· ≥ ·)) (h : 0 ≤ b) : Top2 l a b := by
  rw [List.pairwise_cons, List.pairwise_cons] at pw
  refine ⟨r ++ [0, 0], (p.symm.append_right [0, 0]).trans (List.Perm.refl _), pw.1 b (List.mem_cons_self ..), fun x hx => ?_⟩
  rcases List.mem_append.mp hx with h' | h'
  · exact pw.2.1 x h'
  · have : x = 0 := by simpa using h'
    omega
/-- the need of a recipe by those of its parts -/
def Nd (ds : List Int) (d : Int) : Prop := ∃ f s, Top2 ds f s ∧ d = max f (s + 1)
theorem Nd.pos {ds : List Int} {d : Int} (h : Nd ds d) : 1 ≤ d := by
  obtain ⟨f, s, t, rfl⟩ := h
  have := t.base
  omega
theorem Nd.is {ds : List Int} {d f s : Int} (h : Nd ds d) (t : Top2 ds f s) : d = max f (s + 1) := by
  obtain ⟨f', s', t', rfl⟩ := h
  obtain ⟨rfl, rfl⟩ := t'.uniq t
  rfl
/-! ### counts of parts, a recipe ahead of its parts -/
def av : List Int → Int
  | [] => 0
  | c :: r => av r - c + 1
def Okc : List Int → Prop
  | [] => True
  | c :: r => Okc r ∧ 0 ≤ c ∧ c < 64 ∧ c ≤ av r
/-- p: the counts so far; m trees begun, l parts lacking -/
def Gd (p : List Int) (m l : Int) : Prop := ∀ r, Okc r → l ≤ av r → Okc (p ++ r) ∧ av r - l + m ≤ av (p ++ r)
theorem Gd.nil : Gd [] 0 0 := fun r h _ => ⟨h, by show av r - 0 + 0 ≤ av r; omega⟩
theorem Gd.root {p : List Int} {m c : Int} (h : Gd p m 0) (h0 : 0 ≤ c) (h1 : c < 64) : Gd (p ++ [c]) (m + 1) c := fun r hr hl => by
  rw [List.append_assoc]
  have e : av ([c] ++ r) = av r - c + 1 := rfl
  have k := h ([c] ++ r) ⟨hr, h0, h1, hl⟩ (by rw [e]; omega)
  exact ⟨k.1, by have := k.2; rw [e] at this; omega⟩
theorem Gd.part {p : List Int} {m l c : Int} (h : Gd p m l) (l1 : 1 ≤ l) (h0 : 0 ≤ c) (h1 : c < 64) : Gd (p ++ [c]) m (l - 1 + c) := fun r hr hl => by
  rw [List.append_assoc]
  have e : av ([c] ++ r) = av r - c + 1 := rfl
  have k := h ([c] ++ r) ⟨hr, h0, h1, (by show c ≤ av r; omega)⟩ (by rw [e]; omega)
  exact ⟨k.1, by have := k.2; rw [e] at this; omega⟩
theorem okc_zeros : ∀ n : Nat, Okc (List.replicate n 0) ∧ av (List.replicate n 0) = n
  | 0 => ⟨trivial, rfl⟩
  | n + 1 => by
    have k := okc_zeros n
    rw [List.replicate_succ]
    refine ⟨⟨k.1, by decide, by decide, by rw [k.2]; omega⟩, ?_⟩
    show av (List.replicate n 0) - 0 + 1 = _
    rw [k.2]
    omega
theorem Gd.done {p : List Int} {m : Int} (h : Gd p m 0) : Okc p := by
  have k := h [] trivial (Int.le_refl _)
  rw [List.append_nil] at k
  exact k.1
theorem Gd.whole {p : List Int} {m : Int} {l : Nat} (h : Gd p m l) (m0 : 0 ≤ m) (m1 : m < 64) : Okc (m :: (p ++ List.replicate l 0)) := by
  have z := okc_zeros l
  have k := h _ z.1 (by rw [z.2]; omega)
  exact ⟨k.1, m0, m1, by have := k.2; rw [z.2] at this; omega⟩
theorem last_ix (i : List Int) (x : Int) : ixN ((i ++ [x]).map V.int).length (-1) = some i.length := by
  unfold ixN
  rw [if_neg (by decide), List.length_map, List.length_append, if_pos (by simp; omega)]
  congr 1
  simp
  omega
theorem last_set (i : List Int) (x y : Int) : ((i ++ [x]).map V.int).set i.length (.int y) = (i ++ [y]).map V.int := by
  rw [List.map_append, List.map_append]
  rw [List.set_append_right _ _ (by rw [List.length_map]; exact Nat.le_refl _)]
  simp
theorem last_at (i : List Int) (x : Int) : atI ((i ++ [x]).map V.int) (-1) = some (.int x) := by
  rw [List.map_append]
  exact atI_last _ _
theorem sum_snoc (i : List Int) (x : Int) : (i ++ [x]).sum = i.sum + x := by simp
theorem sum_nn : ∀ {l : List Int}, (∀ x ∈ l, 0 ≤ x) → 0 ≤ l.sum
  | [], _ => by decide
  | x :: r, h => by
    have := h x (List.mem_cons_self ..)
    have := sum_nn (l := r) fun y hy => h y (List.mem_cons_of_mem _ hy)
    rw [List.sum_cons]
    omega
theorem sum_le : ∀ {l : List Int}, (∀ x ∈ l, x ≤ 4) → l.sum ≤ 4 * l.length
  | [], _ => by decide
  | x :: r, h => by
    have := h x (List.mem_cons_self ..)
    have := sum_le (l := r) fun y hy => h y (List.mem_cons_of_mem _ hy)
    rw [List.sum_cons, List.length_cons]
    omega
theorem nil_or_snoc (l : List Int) : l = [] ∨ ∃ i x, l = i ++ [x] := by
  cases h : l.reverse with
  | nil => exact .inl (List.reverse_eq_nil_iff.mp h)
  | cons x i => exact .inr ⟨i.reverse, x, by have := congrArg List.reverse h; simpa using this⟩
/-! ### trees in the heap -/
def Am (H : Hp) (m : Addr) (n : Nat) : Prop := ∃ t b : Int, H m = some (.tup [.int t, .int b]) ∧ 0 ≤ t ∧ 1 ≤ b ∧ Bt (64 * n - 1) t ∧ Bt (64 * n - 1) b
theorem Am.keep {H H' : Hp} {m : Addr} {n : Nat} (h : Am H m n) (k : Tk H H') : Am H' m n := by
  obtain ⟨t, b, e, r⟩ := h
  exact ⟨t, b, k _ _ e, r⟩
/-- a part with its size and its need -/
abbrev Pt := V × Nat × Int
def szs (cs : List Pt) : Nat := (cs.map (·.2.1)).sum
def Tr (H : Hp) : Nat → V → Nat → Int → Prop
  | 0, _, _, _ => False
  | n + 1, v, s, d =>
    (∃ (p m : Addr) (x : Str), v = .ref p ∧ H p = some (.tup [.str "ware", .str x, .ref m]) ∧ Am H m 1 ∧ s = 1 ∧ d = 0) ∨
    (∃ (p m q : Addr) (x : Str) (cs : List Pt), v = .ref p ∧ H p = some (.tup [.str "recipe", .str x, .ref m, .ref q]) ∧ H q = some (.tup (cs.map (·.1))) ∧ 1 ≤ cs.length ∧ cs.length < 64 ∧
      (∀ c ∈ cs, Tr H n c.1 c.2.1 c.2.2) ∧ s = 1 + szs cs ∧ Nd (cs.map (·.2.2)) d ∧ Am H m s)
theorem Tr.keep {H H' : Hp} (k : Tk H H') : ∀ {n : Nat} {v : V} {s : Nat} {d : Int}, Tr H n v s d → Tr H' n v s d
  | 0, _, _, _, h => h
  | n + 1, v, s, d, h => by
    rcases h with ⟨p, m, x, e, hp, am, r⟩ | ⟨p, m, q, x, cs, e, hp, hq, l1, l2, hc, hs, hd, am⟩
    · exact .inl ⟨p, m, x, e, k _ _ hp, am.keep k, r⟩
    · exact .inr ⟨p, m, q, x, cs, e, k _ _ hp, k _ _ hq, l1, l2, fun c h => Tr.keep k (hc c h), hs, hd, am.keep k⟩
theorem Tr.up {H : Hp} : ∀ {n m : Nat} {v : V} {s : Nat} {d : Int}, n ≤ m → Tr H n v s d → Tr H m v s d
  | 0, _, _, _, _, _, h => h.elim
  | n + 1, 0, _, _, _, l, _ => absurd l (by omega)
  | n + 1, m + 1, v, s, d, l, h => by
    rcases h with h | ⟨p, a, q, x, cs, e, hp, hq, l1, l2, hc, r⟩
    · exact .inl h
    · exact .inr ⟨p, a, q, x, cs, e, hp, hq, l1, l2, fun c h => Tr.up (by omega) (hc c h), r⟩
theorem Tr.size {H : Hp} {n : Nat} {v : V} {s : Nat} {d : Int} (h : Tr H n v s d) : 1 ≤ s := by
  cases n with
  | zero => exact h.elim
  | succ n =>
    rcases h with ⟨_, _, _, _, _, _, rfl, _⟩ | ⟨_, _, _, _, _, _, _, _, _, _, _, rfl, _⟩ <;> omega
theorem Tr.need {H : Hp} {n : Nat} {v : V} {s : Nat} {d : Int} (h : Tr H n v s d) : 0 ≤ d := by
  cases n with
  | zero => exact h.elim
  | succ n =>
    rcases h with ⟨_, _, _, _, _, _, _, rfl⟩ | ⟨_, _, _, _, _, _, _, _, _, _, _, _, hd, _⟩
    · exact Int.le_refl _
    · have := hd.pos; omega
/-- what each tree shows at sight: a kind, and at the third place its amount -/
theorem Tr.shows {H : Hp} {n : Nat} {v : V} {s : Nat} {d : Int} (h : Tr H n v s d) : ∃ (p m : Addr) (y x : Str) (xs : List V), v = .ref p ∧ H p = some (.tup (.str y :: .str x :: .ref m :: xs)) ∧ Am H m s := by
  cases n with
  | zero => exact h.elim
  | succ n =>
    rcases h with ⟨p, m, x, e, hp, am, rfl, _⟩ | ⟨p, m, q, x, cs, e, hp, hq, l1, l2, hc, hs, hd, am⟩
    · exact ⟨p, m, _, x, [], e, hp, am⟩
    · exact ⟨p, m, _, x, _, e, hp, am⟩
theorem szs_cons (c : Pt) (cs : List Pt) : szs (c :: cs) = c.2.1 + szs cs := by simp [szs]
theorem szs_mem {cs : List Pt} {c : Pt} (h : c ∈ cs) : c.2.1 ≤ szs cs := by
  induction cs with
  | nil => cases h
  | cons a r ih =>
    rw [szs_cons]
    rcases List.mem_cons.mp h with h | h
    · subst h; omega
    · have := ih h; omega
theorem szs_append (a b : List Pt) : szs (a ++ b) = szs a + szs b := by simp [szs]
theorem szs_rev (a : List Pt) : szs a.reverse = szs a := by simp [szs]
theorem pe_bm0K {X : Cx} {K : PySem.W.Frag} {o : Expr} {to : TE} {name : Str} {apos cpos : Pos} {T id : String} {r : V → List V → Hp → VK → Prop} (hK : X.K = K) (pa : PlainAttrs T) (slot : Slot T name id) (hty : typeOf (.builtin id) = pure (.type "method_descriptor")) (hm : MtR X id r) (ho : PE X o to)
    (hbase : attributeBase o name X.env (eval o X.env) = eval o X.env := by rfl) (hline : (apos.endLine == cpos.line) = true := by rfl) : PE X (.Call (.Attribute o name apos) [] [] cpos) (tBM0 K T r to) := hK ▸ pe_bm0 pa slot hty hm ho hbase hline
/-! ### things taken off a pile within a comprehension -/
def Bx (a : Addr) (H H' : Hp) : Prop := ∀ b o, b ≠ a → H b = some o → H' b = some o
theorem Bx.tk {a : Addr} {H H' : Hp} {xs : List V} (h : Bx a H H') (ha : H a = some (.lst xs)) : Tk H H' := fun b ys e => h b _ (fun z => by rw [z, ha] at e; cases e) e
theorem comp_pop {K : PySem.W.Frag} {Pl D : Addr} {r u : List V} {H1 : Hp} {QD : Hp → Prop} (hP : H1 Pl = some (.lst (r ++ u.reverse))) (hD : H1 D = none) (hl : u.length ≤ 1000)
    (hd : ∀ H', Bx Pl H1 H' → H' Pl = some (.lst r) → H' D = some (.lst u) → QD H') :
    ∃ W : Nat → Nat → List V → Hp → Prop, (∃ m, W 0 m [] (upd H1 D (.lst []))) ∧ ∀ i m ys H, W i m ys H → H D = some (.lst ys) ∧ ys.length < sizeLine ∧
      (((Itr 0 u.length).stop i H ∧ QD H) ∨ ((Itr 0 u.length).go i H ∧ ∀ x H', (Itr 0 u.length).yld i H x H' → gName 0 x [none, some (.ref Pl)] H' fun σ2 H2 => Keep [none, some (.ref Pl)] σ2 ∧ tNoIf σ2 H2 fun b H3 =>
        if b = true then tBM0 K "list" rPop (tVar 1) σ2 H3 fun y H4 => H4 D = some (.lst ys) ∧ ∃ m', m' < m ∧ W (i + 1) m' (ys ++ [y]) (upd H4 D (.lst (ys ++ [y]))) else ∃ m', m' < m ∧ W (i + 1) m' ys H3)) := by
  have DP : D ≠ Pl := fun z => by rw [z, hP] at hD; cases hD
  refine ⟨fun i m ys H => m = u.length - i ∧ i ≤ u.length ∧ Bx Pl H1 H ∧ H Pl = some (.lst (r ++ (u.drop i).reverse)) ∧ H D = some (.lst ys) ∧ ys = u.take i,
    ⟨_, rfl, Nat.zero_le _, fun b o n e => by rw [upd_ne (ne_of_none e hD)]; exact e, by rw [upd_ne DP.symm]; exact hP, upd_same, rfl⟩, ?_⟩
  rintro i m ys H ⟨rfl, hi, bx, hPl, hDD, rfl⟩
  refine ⟨hDD, small1000 (by rw [List.length_take]; omega), ?_⟩
  by_cases hlt : i < u.length
  · refine .inr ⟨hlt, fun x H' y => ?_⟩
    obtain ⟨rfl, _⟩ := y
    obtain ⟨v, hv⟩ : ∃ v, u[i]? = some v := ⟨_, List.getElem?_eq_getElem hlt⟩
    have ed : u.drop i = v :: u.drop (i + 1) := by
      rw [List.drop_eq_getElem_cons hlt]
      congr 1
      rw [List.getElem?_eq_getElem hlt] at hv
      exact Option.some.inj hv
    have el : r ++ (u.drop i).reverse = (r ++ (u.drop (i + 1)).reverse) ++ [v] := by rw [ed, List.reverse_cons, List.append_assoc]
    rw [el] at hPl
    refine ⟨(Keep.refl _).set rfl, ?_⟩
    unfold tNoIf
    dsimp only
    rw [if_pos rfl]
    refine ⟨_, rfl, .inl ⟨rfl, _, SqL.of hPl⟩, Pl, _, v, rfl, rfl, hPl, by simp, ?_⟩
    have ex : ((r ++ (u.drop (i + 1)).reverse) ++ [v]).dropLast = r ++ (u.drop (i + 1)).reverse := by simp
    rw [ex]
    refine ⟨by rw [upd_ne DP]; exact hDD, u.length - (i + 1), by omega, rfl, hlt, fun b o n e => ?_, ?_, upd_same, ?_⟩
    · rw [upd_ne (ne_of_none e hD), upd_ne n]
      exact bx b o n e
    · rw [upd_ne DP.symm]
      exact upd_same
    · rw [List.take_add_one, hv]
      rfl
  · have e : i = u.length := by omega
    subst e
    rw [List.drop_length, List.reverse_nil, List.append_nil] at hPl
    rw [List.take_length] at hDD
    exact .inl ⟨Nat.le_refl _, hd H bx hPl hDD⟩
theorem okc_drop : ∀ {cs : List Int} (k : Nat), Okc cs → Okc (cs.drop k)
  | _, 0, h => h
  | [], _ + 1, h => h
  | _ :: r, k + 1, h => okc_drop (cs := r) k h.1
theorem drop_at {cs : List Int} {k : Nat} {c : Int} (h : cs[k]? = some c) : cs.drop k = c :: cs.drop (k + 1) := by
  obtain ⟨hl, e⟩ := List.getElem?_eq_some_iff.mp h
  rw [List.drop_eq_getElem_cons hl, e]
/-- how many counts are not nought -/
def nzc (cs : List Int) : Nat := (cs.filter fun c => c != 0).length
theorem nzc_le (cs : List Int) : nzc cs ≤ cs.length := List.length_filter_le _ _
theorem nzc_zero (cs : List Int) : nzc (0 :: cs) = nzc cs := rfl
theorem nzc_ne {c : Int} (cs : List Int) (h : c ≠ 0) : nzc (c :: cs) = nzc cs + 1 := by
  unfold nzc
  rw [List.filter_cons_of_pos (by simpa using h)]
  rfl
theorem nzc_app (a b : List Int) : nzc (a ++ b) = nzc a + nzc b := by simp [nzc]
theorem nzc_zeros (n : Nat) : nzc (List.replicate n 0) = 0 := by
  induction n with
  | zero => rfl
  | succ n ih => rw [List.replicate_succ, nzc_zero, ih]
/-- a pile of trees, behind the last j counts -/
structure Pile (H : Hp) (cs : List Int) (j : Nat) (pl : List Pt) : Prop where
  tr : ∀ c ∈ pl, Tr H (nzc (cs.drop (cs.length - j)) + 1) c.1 c.2.1 c.2.2
  sz : szs pl = j
  ln : (pl.length : Int) = av (cs.drop (cs.length - j))
  hd : 1 ≤ j → ∃ pl' q, pl = pl' ++ [q] ∧ ∀ c, cs[cs.length - j]? = some c → 1 ≤ c → 1 ≤ q.2.2
theorem Pile.keep {H H' : Hp} {cs : List Int} {j : Nat} {pl : List Pt} (h : Pile H cs j pl) (k : Tk H H') : Pile H' cs j pl := ⟨fun c hc => (h.tr c hc).keep k, h.sz, h.ln, h.hd⟩
theorem Pile.nil {H : Hp} {cs : List Int} : Pile H cs 0 [] := ⟨(fun _ h => nomatch h), rfl, by rw [Nat.sub_zero, List.drop_length]; rfl, fun h => absurd h (by decide)⟩
theorem Pile.ware {H : Hp} {cs : List Int} {j k : Nat} {pl : List Pt} {v : V} (h : Pile H cs j pl) (hj : cs.length = k + 1 + j) (hc : cs[k]? = some 0) (t : Tr H 1 v 1 0) : Pile H cs (j + 1) (pl ++ [(v, 1, 0)]) := by
  have e1 : cs.length - (j + 1) = k := by omega
  have e2 : cs.length - j = k + 1 := by omega
  refine ⟨fun c hc' => ?_, ?_, ?_, fun _ => ⟨pl, _, rfl, fun c hc' h1 => ?_⟩⟩
  · rw [e1, drop_at hc, nzc_zero]
    rcases List.mem_append.mp hc' with h' | h'
    · have := h.tr c h'
      rw [e2] at this
      exact this
    · rw [List.mem_singleton.mp h']
      exact t.up (by omega)
  · rw [szs_append, h.sz]
    rfl
  · have := h.ln
    rw [e2] at this
    rw [e1, drop_at hc, List.length_append]
    show ((pl.length + 1 : Nat) : Int) = av (cs.drop (k + 1)) - 0 + 1
    omega
  · rw [e1, hc] at hc'
    cases hc'
    omega
theorem Pile.split {H : Hp} {cs : List Int} {j k : Nat} {c : Int} {pl : List Pt} (h : Pile H cs j pl) (ok : Okc cs) (hj : cs.length = k + 1 + j) (hc : cs[k]? = some c) : ∃ r u : List Pt, pl = r ++ u.reverse ∧ (u.length : Int) = c ∧ u.length < 64 := by
  have o := okc_drop k ok
  rw [drop_at hc] at o
  obtain ⟨_, c0, c64, ca⟩ := o
  have e2 : cs.length - j = k + 1 := by omega
  have l := h.ln
  rw [e2] at l
  refine ⟨pl.take (pl.length - c.toNat), (pl.drop (pl.length - c.toNat)).reverse, by rw [List.reverse_reverse, List.take_append_drop], ?_, ?_⟩ <;> rw [List.length_reverse, List.length_drop] <;> omega
theorem Tr.recipe {H : Hp} {n : Nat} {p m q : Addr} {x : Str} {u : List Pt} (hp : H p = some (.tup [.str "recipe", .str x, .ref m, .ref q])) (hq : H q = some (.tup (u.map (·.1)))) (l1 : 1 ≤ u.length) (l2 : u.length < 64) (ht : ∀ c ∈ u, Tr H n c.1 c.2.1 c.2.2) (am : Am H m (1 + szs u)) :
    ∃ d, 1 ≤ d ∧ Tr H (n + 1) (.ref p) (1 + szs u) d := by
  obtain ⟨d, hd⟩ : ∃ d, Nd (u.map (·.2.2)) d := by
    have : ∀ l : List Int, ∃ f s, Top2 l.reverse f s := fun l => by
      induction l with
      | nil => exact ⟨0, 0, Top2.nil⟩
      | cons x r ih =>
        obtain ⟨f, s, t⟩ := ih
        rw [List.reverse_cons]
        by_cases h1 : f < x
        · exact ⟨_, _, t.up h1⟩
        · by_cases h2 : s ≤ x
          · exact ⟨_, _, t.mid (by omega) h2⟩
          · exact ⟨_, _, t.low (by omega)⟩
    obtain ⟨f, s, t⟩ := this (u.map (·.2.2)).reverse
    rw [List.reverse_reverse] at t
    exact ⟨_, f, s, t, rfl⟩
  exact ⟨d, hd.pos, .inr ⟨p, m, q, x, u, rfl, hp, hq, l1, l2, ht, rfl, hd, am⟩⟩
theorem Pile.recipe {H : Hp} {cs : List Int} {j k : Nat} {c d : Int} {r u : List Pt} {v : V} (h : Pile H cs j (r ++ u.reverse)) (hj : cs.length = k + 1 + j) (hc : cs[k]? = some c) (c0 : c ≠ 0) (hl : (u.length : Int) = c) (d1 : 1 ≤ d) (t : Tr H (nzc (cs.drop (cs.length - j)) + 1 + 1) v (1 + szs u) d) : Pile H cs (j + 1) (r ++ [(v, 1 + szs u, d)]) := by
  have e1 : cs.length - (j + 1) = k := by omega
  have e2 : cs.length - j = k + 1 := by omega
  refine ⟨fun c' hc' => ?_, ?_, ?_, fun _ => ⟨r, _, rfl, fun c hc' h1 => d1⟩⟩
  · rw [e1, drop_at hc, nzc_ne _ c0]
    rcases List.mem_append.mp hc' with h' | h'
    · have := h.tr c' (List.mem_append_left _ h')
      rw [e2] at this
      exact this.up (by omega)
    · rw [List.mem_singleton.mp h']
      rw [e2] at t
      exact t
  · have := h.sz
    rw [szs_append, szs_rev] at this
    rw [szs_append, szs_cons]
    show szs r + (1 + szs u + 0) = j + 1
    omega
  · have := h.ln
    rw [e2, List.length_append, List.length_reverse] at this
    rw [e1, drop_at hc, List.length_append]
    show ((r.length + 1 : Nat) : Int) = av (cs.drop (k + 1)) - c + 1
    omega
theorem len_szs {H : Hp} {n : Nat} : ∀ {l : List Pt}, (∀ c ∈ l, Tr H n c.1 c.2.1 c.2.2) → l.length ≤ szs l
  | [], _ => Nat.zero_le _
  | q :: r, h => by
    rw [szs_cons, List.length_cons]
    have := (h q (List.mem_cons_self ..)).size
    have := len_szs (l := r) fun c hc => h c (List.mem_cons_of_mem _ hc)
    omega
/-! ### paths -/
def AtP (H : Hp) : V → List Nat → V → Prop
  | v, [], u => v = u
  | v, k :: r, u => ∃ (p m q : Addr) (x : Str) (vs : List V) (c : V), v = .ref p ∧ H p = some (.tup [.str "recipe", .str x, .ref m, .ref q]) ∧ H q = some (.tup vs) ∧ vs[k]? = some c ∧ AtP H c r u
theorem AtP.keep {H H' : Hp} (t : Tk H H') : ∀ {v : V} {ks : List Nat} {u : V}, AtP H v ks u → AtP H' v ks u
  | _, [], _, h => h
  | _, _ :: _, _, ⟨p, m, q, x, vs, c, e, hp, hq, hc, h⟩ => ⟨p, m, q, x, vs, c, e, t _ _ hp, t _ _ hq, hc, AtP.keep t h⟩
abbrev pth (ks : List Nat) : List V := ks.map fun (k : Nat) => V.int (k : Int)
/-- an entry of a list of paths: the path and the part that lies there; s the part's size -/
def Ent (H : Hp) (root : V) (N : Nat) (e : Addr) (s : Nat) : Prop := ∃ (pa : Addr) (ks : List Nat) (v : V) (n : Nat) (d : Int), H e = some (.tup [.ref pa, v]) ∧ H pa = some (.tup (pth ks)) ∧ AtP H root ks v ∧ Tr H n v s d ∧ ks.length + n ≤ N
end TR

namespace K43
open PySem PySem.Spec PyProof.Rows L2 GM TM TR
def spNeedOf (n : Nat) : Sp := fun vs H Q _ => ∃ v s d, vs = [v] ∧ Tr H n v s d ∧ ∀ H', Same H H' → Q (.int d) H'
def spNeeds (n : Nat) : Sp := fun vs H Q _ => ∃ (p m q : Addr) (x : Str) (cs : List Pt), vs = [.ref p] ∧ H p = some (.tup [.str "recipe", .str x, .ref m, .ref q]) ∧ H q = some (.tup (cs.map (·.1))) ∧ cs.length < 64 ∧ (∀ c ∈ cs, Tr H n c.1 c.2.1 c.2.2) ∧
  ∀ l H', Same H H' → H l = none → H' l = some (.lst ((cs.map (·.2.2)).map V.int)) → Q (.ref l) H'
section
variable {P : Program} {w : World} {K : PySem.W.Frag} {mg : Str → Option Value} {base : Heap}
theorem no_need {k : Nat} {f : Addr} {fd : FuncData} : FnOk P w K mg base CX0 k f fd ["tree"] (spNeedOf 0) := ⟨fun vs H Q E ⟨_, _, _, _, h, _⟩ => h.elim, fun A outer s H args us vs Q E _ _ _ _ ⟨_, _, _, _, h, _⟩ => h.elim⟩
theorem ndPart : (["part"] : List Str).Nodup := by decide +kernel
theorem scNeeds : FnScope ["tree"] ["tree"] (defScope sNeeds) := ⟨rfl, rfl, rfl, by decide +kernel, rfl, by decide +kernel, by decide +kernel⟩
theorem ok_needs {k n : Nat} {f : Addr} {fd : FuncData} (F : Fun K "needs_of_children" "needs_of_children" sNeeds f fd) (cN : Cal P w K mg base CX0 k "need_of" ["tree"] (spNeedOf n)) : FnOk P w K mg base CX0 (k + 1) f fd ["tree"] (spNeeds n) := by
  refine F.ok scNeeds (fun vs H Q E h => ?_) (fun cdv A outer s H vs Q E hr h => ?_)
  · obtain ⟨_, _, _, _, _, rfl, _⟩ := h
    rfl
  · obtain ⟨p, m, q, x, cs, rfl, hp, hq, l, hc, kk⟩ := h
    refine ⟨_, (pss_one (ps_ret (pe_comp (N' := ["part"]) (cl := []) (fun _ => [none]) rfl rfl (by decide +kernel) (by decide +kernel) (clOk_plain (by decide +kernel)) (fun _ _ => blkN_none)
            (pi_tup (pit 0 3)) (fun _ _ _ _ _ => pg_name (i := 0) ndPart rfl (Or.inl rfl)) (fun _ _ _ _ _ => pifs_nil)
            (fun _ _ _ _ _ => pe_cal cN hr rfl pass0 (pa_cons (pv 0) pa_nil))))), ?_⟩
    refine ⟨p, _, _, rfl, SqT.of hp, rfl, q, rfl, ⟨_, SqT.of hq⟩, fun D hD => ?_⟩
    refine comp_rel (Ys.tup (SqT.of hq)) (fun i _ y _ => ∀ c : Pt, cs[i]? = some c → y = .int c.2.2) (fun _ _ _ _ _ h _ => h) hD (by rw [List.length_map]; omega) (fun i v H' R hv sm hR => ?_) (fun ys H' sm hD' yl hy => ?_)
    · rw [List.getElem?_map] at hv
      cases e : cs[i]? with
      | none => rw [e] at hv; cases hv
      | some c =>
        rw [e] at hv
        cases hv
        have ht := hc c (List.mem_of_getElem? e)
        exact ⟨(Keep.refl _).set rfl, _, rfl, _, _, _, rfl, ht.keep sm.tk, fun H2 s2 => hR _ _ s2 fun c' e' => by rw [e] at e'; cases e'; rfl⟩
    · rw [List.length_map] at yl
      have ey : ys = (cs.map (·.2.2)).map V.int := by
        refine list_eq (by rw [List.length_map, List.length_map]; exact yl) fun i a b ha hb => ?_
        rw [List.map_map, List.getElem?_map] at ha
        cases e : cs[i]? with
        | none => rw [e] at ha; cases ha
        | some c =>
          rw [e] at ha
          cases ha
          exact hy i c.1 b (by rw [List.getElem?_map, e]; rfl) hb c e
      subst ey
      exact kk D H' sm hD hD'
theorem scNeedOf : FnScope ["tree", "needs", "second"] ["tree"] (defScope sNeedOf) := ⟨rfl, rfl, rfl, by decide +kernel, rfl, by decide +kernel, by decide +kernel⟩
theorem ok_needof {k n : Nat} {f : Addr} {fd : FuncData} (F : Fun K "need_of" "need_of" sNeedOf f fd) (T : Txt mg) (cS : Cal P w K mg base CX0 k "needs_of_children" ["tree"] (spNeeds n)) : FnOk P w K mg base CX0 (k + 1) f fd ["tree"] (spNeedOf (n + 1)) := by
  refine F.ok scNeedOf (fun vs H Q E h => ?_) (fun cdv A outer s H vs Q E hr h => ?_)
  · obtain ⟨_, _, _, rfl, _⟩ := h
    rfl
  · obtain ⟨v, s, d, rfl, h, kk⟩ := h
    refine ⟨_, (pss_cons (ps_if (pt_cmpR op_eq (pit 0 0) pe_str (nomark _))
        (pss_one (ps_ret pe_int))
        pss_nil)
      (pss_cons (ps_set (i := 1) scNeedOf.nd rfl (Or.inl rfl) (pe_sortR rfl T.sorted' (pe_cal cS hr rfl pass0 (pa_cons (pv 0) pa_nil))))
      (pss_cons (ps_set (i := 2) scNeedOf.nd rfl (Or.inl rfl) (pe_ifExp (pt_cmpR op_gt (pe_callB call_len_seq rfl T.len PySem.boot_len (pa_cons (pv 1) pa_nil)) pe_int (nomark _)) (pe_ix ix_list (pv 1) pe_int (fun _ _ => rfl)) pe_int))
      (pss_one (ps_ret (pe_callB (call_max2 rfl) rfl T.max' boot_max (pa_cons (pe_ix ix_list (pv 1) pe_int (fun _ _ => rfl)) (pa_cons (pe_op op_add (pv 2) pe_int) pa_nil)))))))), ?_⟩
    rcases h with ⟨p, m, x, rfl, hp, am, _, rfl⟩ | ⟨p, m, q, x, cs, rfl, hp, hq, l1, l2, hc, hs, hd, am⟩
    · exact ⟨p, _, _, rfl, SqT.of hp, rfl, rfl, _, rfl, iteT (kk _ (Same.refl _))⟩
    · refine ⟨p, _, _, rfl, SqT.of hp, rfl, rfl, _, rfl, iteF ?_⟩
      refine ⟨_, rfl, p, m, q, x, cs, rfl, hp, hq, l2, hc, fun l H1 s1 hl hl1 => ?_⟩
      refine ⟨l, _, rfl, SqL.of hl1, by rw [List.length_map]; exact l2, fun r ns pm pw hr1 => ?_⟩
      have nl : ns.length = cs.length := by rw [pm.length_eq, List.length_map]
      have nn : ∀ y ∈ ns, 0 ≤ y := fun y hy => by
        obtain ⟨c, hc', rfl⟩ := List.mem_map.mp (pm.mem_iff.mp hy)
        exact (hc c hc').need
      have sR : Same H (upd H1 r (.lst (ns.map V.int))) := s1.trans (Same.upd hr1)
      match ns, nl, pm, pw, nn with
      | [], nl, _, _, _ => rw [← nl] at l1; exact absurd l1 (by decide)
      | [a], nl, pm, pw, nn =>
        refine ⟨_, rfl, r, _, rfl, .inl (SqL.of upd_same), _, _, rfl, rfl, _, rfl, iteF ?_⟩
        refine ⟨_, rfl, r, _, 0, .int a, rfl, rfl, SqL.of upd_same, atI_nat (j := 0) rfl, _, rfl, _, _, rfl, rfl, _, _, rfl, ?_⟩
        have a0 := nn a (List.mem_cons_self ..)
        have e := hd.is (Top2.one pm a0)
        have e' : (if (0 : Int) + 1 > a then (0 : Int) + 1 else a) = d := by rw [e]; split <;> omega
        rw [e']
        exact kk _ sR
      | a :: b :: t, nl, pm, pw, nn =>
        refine ⟨_, rfl, r, _, rfl, .inl (SqL.of upd_same), _, _, rfl, rfl, _, rfl, ?_⟩
        have hg : decide (((((a :: b :: t).map V.int).length : Nat) : Int) > 1) = true := decide_eq_true (by simp; omega)
        rw [hg]
        refine iteT ⟨_, rfl, r, _, 1, .int b, rfl, rfl, SqL.of upd_same, atI_nat (j := 1) rfl, ?_⟩
        refine ⟨_, rfl, r, _, 0, .int a, rfl, rfl, SqL.of upd_same, atI_nat (j := 0) rfl, _, rfl, _, _, rfl, rfl, _, _, rfl, ?_⟩
        have b0 := nn b (by simp)
        have e := hd.is (Top2.two pm pw b0)
        have e' : (if b + 1 > a then b + 1 else a) = d := by rw [e]; split <;> omega
        rw [e']
        exact kk _ sR
theorem no_needL {k : Nat} {f : Addr} {fd : FuncData} : FnOk P w K mg base CX0 k f fd ["_law_part"] (spNeedOf 0) := ⟨fun vs H Q E ⟨_, _, _, _, h, _⟩ => h.elim, fun A outer s H args us vs Q E _ _ _ _ ⟨_, _, _, _, h, _⟩ => h.elim⟩
theorem scNeed : FnScope ["_law_part", "_law_first", "_law_second", "_law_inner", "_law_need_here"] ["_law_part"] (defScope sNeed) := ⟨rfl, rfl, rfl, by decide +kernel, rfl, by decide +kernel, by decide +kernel⟩
theorem ok_need {k n : Nat} {f : Addr} {fd : FuncData} (F : Fun K "_law_need" "_law_need" sNeed f fd) (T : Txt mg) (cN : Cal P w K mg base CX0 k "_law_need" ["_law_part"] (spNeedOf n)) : FnOk P w K mg base CX0 (k + 1) f fd ["_law_part"] (spNeedOf (n + 1)) := by
  refine F.ok scNeed (fun vs H Q E h => ?_) (fun cdv A outer s H vs Q E hr h => ?_)
  · obtain ⟨_, _, _, rfl, _⟩ := h
    rfl
  · obtain ⟨v, s, d, rfl, h, kk⟩ := h
    refine ⟨_, (pss_cons (ps_if (pt_cmpR op_eq (pit 0 0) pe_str (nomark _))
        (pss_one (ps_ret pe_int))
        pss_nil)
      (pss_cons (ps_set (i := 1) scNeed.nd rfl (Or.inl rfl) pe_int)
      (pss_cons (ps_set (i := 2) scNeed.nd rfl (Or.inl rfl) pe_int)
      (pss_cons (ps_for PassesOwn.never rfl (pi_tup (pit 0 3)) (pg_name (i := 3) scNeed.nd rfl (Or.inl rfl))
        (pss_cons (ps_set (i := 4) scNeed.nd rfl (Or.inl rfl) (pe_cal cN hr rfl pass0 (pa_cons (pv 3) pa_nil)))
      (pss_one (ps_if (pt_cmpR op_gt (pv 4) (pv 1) (nomark _))
        (pss_cons (ps_set (i := 2) scNeed.nd rfl (Or.inl rfl) (pv 1))
      (pss_one (ps_set (i := 1) scNeed.nd rfl (Or.inl rfl) (pv 4))))
        (pss_one (ps_if (pt_cmpR op_gt (pv 4) (pv 2) (nomark _))
        (pss_one (ps_set (i := 2) scNeed.nd rfl (Or.inl rfl) (pv 4)))
        pss_nil))))))
      (pss_cons (ps_if (pt_cmpR op_eq (pv 1) pe_int (nomark _))
        (pss_one (ps_ret pe_int))
        pss_nil)
      (pss_cons (ps_if (pt_cmpR op_eq (pv 2) pe_int (nomark _))
        (pss_one (ps_ret (pv 1)))
        pss_nil)
      (pss_one (ps_ret (pe_callB (call_max2 rfl) rfl T.max' boot_max (pa_cons (pv 1) (pa_cons (pe_op op_add (pv 2) pe_int) pa_nil))))))))))), ?_⟩
    rcases h with ⟨p, m, x, rfl, hp, am, _, rfl⟩ | ⟨p, m, q, x, cs, rfl, hp, hq, l1, l2, hc, hs, hd, am⟩
    · exact ⟨p, _, _, rfl, SqT.of hp, rfl, rfl, _, rfl, iteT (kk _ (Same.refl _))⟩
    · refine ⟨p, _, _, rfl, SqT.of hp, rfl, rfl, _, rfl, iteF ?_⟩
      refine ⟨p, _, _, rfl, SqT.of hp, rfl, q, rfl, ⟨_, SqT.of hq⟩, ?_⟩
      refine for_tup (fun i σ H' => ∃ (f0 s0 : Int) (v3 v4 : Option V), σ = [some (.ref p), some (.int f0), some (.int s0), v3, v4] ∧ Same H H' ∧ Top2 ((cs.map (·.2.2)).take i) f0 s0) ⟨0, 0, none, none, rfl, Same.refl _, Top2.nil⟩ (fun i σ H' _ ⟨_, _, _, _, _, sm, _⟩ => SqT.of (sm _ _ hq)) ?_ ?_
      · rintro i v σ H1 hv ⟨f0, s0, v3, v4, rfl, sm, tp⟩
        rw [List.getElem?_map] at hv
        cases e : cs[i]? with
        | none => rw [e] at hv; cases hv
        | some c =>
          rw [e] at hv
          cases hv
          have ht := hc c (List.mem_of_getElem? e)
          refine ⟨_, rfl, _, _, _, rfl, ht.keep sm.tk, fun H2 s2 => ?_⟩
          have et : (cs.map (·.2.2)).take (i + 1) = (cs.map (·.2.2)).take i ++ [c.2.2] := by
            rw [List.take_add_one, List.getElem?_map, e]
            rfl
          refine ⟨_, rfl, _, rfl, _, _, rfl, rfl, _, rfl, ite2 (fun h1 => ?_) (fun h1 => ?_)⟩
          · have h1' : c.2.2 > f0 := of_decide_eq_true h1
            exact ⟨_, rfl, _, rfl, _, _, _, _, rfl, sm.trans s2, by rw [et]; exact tp.up h1'⟩
          · have h1' : ¬ c.2.2 > f0 := fun z => h1 (decide_eq_true z)
            refine ⟨_, rfl, _, rfl, _, _, rfl, rfl, _, rfl, ite2 (fun h2 => ?_) (fun h2 => ?_)⟩
            · have h2' : c.2.2 > s0 := of_decide_eq_true h2
              exact ⟨_, rfl, _, _, _, _, rfl, sm.trans s2, by rw [et]; exact tp.mid (by omega) (by omega)⟩
            · have h2' : ¬ c.2.2 > s0 := fun z => h2 (decide_eq_true z)
              exact ⟨_, _, _, _, rfl, sm.trans s2, by rw [et]; exact tp.low (by omega)⟩
      · rintro σ H1 ⟨f0, s0, v3, v4, rfl, sm, tp⟩
        rw [List.length_map, List.take_of_length_le (by rw [List.length_map]; exact Nat.le_refl _)] at tp
        have e := hd.is tp
        have b0 := tp.base
        have sf : s0 ≤ f0 := tp.choose_spec.2.1
        refine ⟨_, rfl, rfl, _, rfl, ite2 (fun h1 => ?_) (fun h1 => ?_)⟩
        · have h1' : f0 = 0 := by simpa [eqV] using h1
          have : d = 1 := by omega
          rw [← this]
          exact kk _ sm
        · have h1' : f0 ≠ 0 := by simpa [eqV] using h1
          refine ⟨_, rfl, rfl, _, rfl, ite2 (fun h2 => ?_) (fun h2 => ?_)⟩
          · have h2' : s0 = 0 := by simpa [eqV] using h2
            have : d = f0 := by omega
            refine ⟨_, rfl, ?_⟩
            rw [← this]
            exact kk _ sm
          · refine ⟨_, rfl, _, rfl, _, _, rfl, rfl, _, _, rfl, ?_⟩
            have e' : (if s0 + 1 > f0 then s0 + 1 else f0) = d := by rw [e]; split <;> omega
            rw [e']
            exact kk _ sm
end
end K43

namespace K43
open PySem PySem.Spec PyProof.Rows L2 GM TM TR
/-- counts that a tree may be built by -/
structure Cts (cs : List Int) : Prop where
  ok : Okc cs
  hd : ∃ c, cs[0]? = some c ∧ 1 ≤ c
  ln : cs.length ≤ 100
  nz : nzc cs ≤ 61
def spFreeC : Sp := fun vs H Q _ => ∃ a : Addr, vs = [.ref a, .int 60] ∧ Lf H a ∧ ∀ (cs : List Int) p H', Cts cs → SmB a H H' → H p = none → p ≠ a → H' p = some (.lst (cs.map V.int)) → Q (.ref p) H'
section
variable {P : Program} {w : World} {K : PySem.W.Frag} {mg : Str → Option Value} {base : Heap}
theorem scFreeC : FnScope ["_law_left", "_law_most", "_law_counts_here", "_law_lacking", "_law_total_here", "_law_many"] ["_law_left", "_law_most"] (defScope sFreeC) := ⟨rfl, rfl, rfl, by decide +kernel, rfl, by decide +kernel, by decide +kernel⟩
theorem ok_freec {f : Addr} {fd : FuncData} (F : Fun K "_law_free_counts" "_law_free_counts" sFreeC f fd) (T : Txt mg) (cD : Cal P w K mg base CX0 1 "_law_digit" ["_law_left", "_law_many"] spDigit) : FnOk P w K mg base CX0 2 f fd ["_law_left", "_law_most"] spFreeC := by
  refine F.ok scFreeC (fun vs H Q E h => ?_) (fun cdv A outer s H vs Q E hr h => ?_)
  · obtain ⟨_, rfl, _⟩ := h
    rfl
  · obtain ⟨a, rfl, lf, k⟩ := h
    refine ⟨_, (pss_cons (ps_set (i := 2) scFreeC.nd rfl (Or.inl rfl) (pe_lst (pa_cons (pe_op op_add pe_int (pe_cal cD hr rfl pass0 (pa_cons (pv 0) (pa_cons pe_int pa_nil)))) pa_nil)))
      (pss_cons (ps_set (i := 3) scFreeC.nd rfl (Or.inl rfl) (pe_lst (pa_cons (pe_ix ix_list (pv 2) pe_int (fun _ _ => rfl)) pa_nil)))
      (pss_cons (ps_set (i := 4) scFreeC.nd rfl (Or.inl rfl) (pe_op op_add pe_int (pe_ix ix_list (pv 2) pe_int (fun _ _ => rfl))))
      (pss_cons (ps_while PassesOwn.never (pt_cmpR (op_neE hr.units) (pv 3) (pe_lst pa_nil) (nomark _))
        (pss_one (ps_if (pt_cmpR op_eq (pe_ix ix_list (pv 3) (pe_un un_neg pe_int) (fun _ _ => rfl)) pe_int (nomark _))
        (pss_one (ps_expr (pe_bm0 PySem.F.plainAttrs_list PySem.F.slot_list_pop PySem.F.type_list_pop mt_pop (pv 3))))
        (pss_cons (ps_asg (pe_op op_sub (pe_ix ix_list (pv 3) (pe_un un_neg pe_int) (fun _ _ => rfl)) pe_int) (pg_sub (pv 3) (pe_un un_neg pe_int) set_list))
      (pss_cons (ps_set (i := 5) scFreeC.nd rfl (Or.inl rfl) (pe_cal cD hr rfl pass0 (pa_cons (pv 0) (pa_cons pe_int pa_nil))))
      (pss_cons (ps_if (PW.pt (pw_or (pt_cmpR op_gt (pe_callB call_len_seq rfl T.len PySem.boot_len (pa_cons (pv 3) pa_nil)) pe_int (nomark _)) (pw_or1 (pt_cmpR op_gt (pe_op op_add (pv 4) (pv 5)) (pv 1) (nomark _)))))
        (pss_one (ps_set (i := 5) scFreeC.nd rfl (Or.inl rfl) pe_int))
        pss_nil)
      (pss_cons (ps_if (pt_cmpR op_gt (pv 5) pe_int (nomark _))
        (pss_one (ps_expr (pe_bm PySem.F.plainAttrs_list PySem.F.slot_list_append PySem.F.type_list_append mt_append (pv 3) (pa_cons (pv 5) pa_nil))))
        pss_nil)
      (pss_cons (ps_expr (pe_bm PySem.F.plainAttrs_list PySem.F.slot_list_append PySem.F.type_list_append mt_append (pv 2) (pa_cons (pv 5) pa_nil)))
      (pss_one (ps_set (i := 4) scFreeC.nd rfl (Or.inl rfl) (pe_op op_add (pv 4) (pv 5))))))))))))
      (pss_one (ps_ret (pv 2))))))), ?_⟩
    refine ⟨_, rfl, a, 9, rfl, lf, by decide, b9, fun d H1 d0 dl s1 lf1 => ?_⟩
    refine ⟨_, _, rfl, rfl, (by show 1 ≤ sizeLine; decide), fun C hC => ?_⟩
    have Ca : C ≠ a := lf1.there hC
    refine ⟨_, rfl, C, _, 0, .int (1 + d), rfl, rfl, SqL.of upd_same, atI_nat (j := 0) rfl, (by show 1 ≤ sizeLine; decide), fun L hL => ?_⟩
    have LC : L ≠ C := fun z => by rw [z, upd_same] at hL; cases hL
    have hL1 : H1 L = none := by rw [upd_ne LC] at hL; exact hL
    have La : L ≠ a := lf1.there hL1
    refine ⟨_, rfl, C, _, 0, .int (1 + d), rfl, rfl, SqL.of (by rw [upd_ne LC.symm]; exact upd_same), atI_nat (j := 0) rfl, _, _, rfl, rfl, ?_⟩
    have nC : H C = none := s1.none hC Ca
    have nL : H L = none := s1.none hL1 La
    refine ⟨fun m σ H' => ∃ (cs ls : List Int) (t : Int) (v5 : Option V), σ = [some (.ref a), some (.int 60), some (.ref C), some (.ref L), some (.int t), v5] ∧ Lf H' a ∧ SmB a H H' ∧ H' C = some (.lst (cs.map V.int)) ∧ H' L = some (.lst (ls.map V.int)) ∧
      Gd cs 1 ls.sum ∧ (∃ c, cs[0]? = some c ∧ 1 ≤ c) ∧ (∀ x ∈ ls, 0 ≤ x) ∧ (cs.length : Int) + ls.sum = t ∧ t ≤ 60 ∧ ls.length ≤ cs.length ∧ m = 2 * (61 - cs.length) + ls.length,
      ⟨_, [1 + d], [1 + d], 1 + (1 + d), none, rfl, (lf1.own Ca).own La, (s1.own nC).own nL, by rw [upd_ne LC.symm]; exact upd_same, upd_same, by have := Gd.nil.root (c := 1 + d) (by omega) (by omega); simpa using this, ⟨_, rfl, by omega⟩, fun x hx => by rw [List.mem_singleton.mp hx]; omega, by simp, by omega, Nat.le_refl _, rfl⟩, ?_⟩
    rintro m σ H' ⟨cs, ls, t, v5, rfl, lf', sb, hC', hL', gd, ⟨c0, hc0, c1⟩, nn, tt, t60, lc, rfl⟩
    refine ⟨_, rfl, (by show 0 ≤ sizeLine; decide), fun z hz => ?_⟩
    have zC : C ≠ z := fun e => by rw [← e, hC'] at hz; cases hz
    have zL : L ≠ z := fun e => by rw [← e, hL'] at hz; cases hz
    have za : z ≠ a := lf'.there hz
    have nz : H z = none := sb.none hz za
    have hC2 : upd H' z (.lst []) C = some (.lst (cs.map V.int)) := by rw [upd_ne zC]; exact hC'
    have hL2 : upd H' z (.lst []) L = some (.lst (ls.map V.int)) := by rw [upd_ne zL]; exact hL'
    have lf2 : Lf (upd H' z (.lst [])) a := lf'.own za
    have sb2 : SmB a H (upd H' z (.lst [])) := sb.own nz
    have hz2 : upd H' z (.lst []) z = some (.lst []) := upd_same
    generalize upd H' z (.lst []) = H2 at hz2 hC2 hL2 lf2 sb2 ⊢
    refine ⟨L, z, _, rfl, rfl, SqL.of hL2, SqL.of hz2, _, rfl, ?_⟩
    rcases nil_or_snoc ls with rfl | ⟨i, x, rfl⟩
    · exact iteF ⟨_, rfl, k cs C H2 ⟨gd.done, ⟨c0, hc0, c1⟩, by simp at tt; omega, Nat.le_trans (nzc_le cs) (by simp at tt; omega)⟩ sb2 nC Ca hC2⟩
    have ene : (!((i ++ [x]).map V.int).isEmpty) = true := by simp
    have x0 := nn x (by simp)
    have i0 : 0 ≤ i.sum := sum_nn fun y hy => nn y (by simp [hy])
    have nni : ∀ y ∈ i, 0 ≤ y := fun y hy => nn y (by simp [hy])
    rw [sum_snoc] at tt gd
    rw [ene]
    refine iteT ⟨_, fun σ' H' h => h, ?_⟩
    refine ⟨_, rfl, _, rfl, L, _, -1, .int x, rfl, rfl, SqL.of hL2, last_at i x, rfl, _, rfl, ite2 (fun h0 => ?_) (fun h0 => ?_)⟩
    · have ex : x = 0 := by simpa [eqV] using h0
      subst ex
      refine ⟨_, rfl, .inl ⟨rfl, _, SqL.of hL2⟩, L, _, .int 0, rfl, rfl, hL2, by simp, ?_⟩
      have ed : ((i ++ [(0 : Int)]).map V.int).dropLast = i.map V.int := by simp
      rw [ed]
      refine ⟨_, ?_, cs, i, t, v5, rfl, lf2.own La, sb2.own nL, by rw [upd_ne LC.symm]; exact hC2, upd_same, by simpa using gd, ⟨c0, hc0, c1⟩, nni, by omega, t60, by simp at lc; omega, rfl⟩
      simp
    · have ex : x ≠ 0 := by simpa [eqV] using h0
      refine ⟨_, rfl, _, rfl, L, _, -1, .int x, rfl, rfl, SqL.of hL2, last_at i x, _, _, rfl, rfl, _, rfl, _, rfl, L, _, -1, i.length, rfl, rfl, hL2, last_ix i x, ?_⟩
      rw [last_set]
      have lf3 : Lf (upd H2 L (.lst ((i ++ [x - 1]).map V.int))) a := lf2.own La
      have sb3 : SmB a H (upd H2 L (.lst ((i ++ [x - 1]).map V.int))) := sb2.own nL
      have hC3 : upd H2 L (.lst ((i ++ [x - 1]).map V.int)) C = some (.lst (cs.map V.int)) := by rw [upd_ne LC.symm]; exact hC2
      have hL3 : upd H2 L (.lst ((i ++ [x - 1]).map V.int)) L = some (.lst ((i ++ [x - 1]).map V.int)) := upd_same
      generalize upd H2 L (.lst ((i ++ [x - 1]).map V.int)) = H3 at lf3 sb3 hC3 hL3 ⊢
      refine ⟨_, rfl, a, 10, rfl, lf3, by decide, b9, fun e H4 e0 el s4 lf4 => ?_⟩
      have hC4 := s4 _ _ Ca hC3
      have hL4 := s4 _ _ La hL3
      have sb4 : SmB a H H4 := sb3.trans s4
      dsimp only [gName]
      refine seq_nx (fun σ' H' => ∃ y : Int, σ' = [some (.ref a), some (.int 60), some (.ref C), some (.ref L), some (.int t), some (.int y)] ∧ H' = H4 ∧ 0 ≤ y ∧ y ≤ 9 ∧ t + y ≤ 60) ?_ (fun N hN => ?_)
      · rintro σ' H' ⟨y, rfl, rfl, y0, y9, ty⟩
        have cl : cs.length ≤ 59 := by omega
        have il : i.length + 1 ≤ cs.length := by simpa using lc
        have fin : ∀ (ls' : List Int) (H5 : Hp), Lf H5 a → SmB a H H5 → H5 C = some (.lst (cs.map V.int)) → H5 L = some (.lst (ls'.map V.int)) → ls'.sum = i.sum + x - 1 + y → (∀ u ∈ ls', 0 ≤ u) → ls'.length ≤ i.length + 2 →
            ∃ m', m' < 2 * (61 - cs.length) + (i ++ [x]).length ∧ ∃ (cs' ls'' : List Int) (t' : Int) (v5 : Option V), [some (.ref a), some (.int 60), some (.ref C), some (.ref L), some (.int (t + y)), some (.int y)] = [some (.ref a), some (.int 60), some (.ref C), some (.ref L), some (.int t'), v5] ∧ Lf (upd H5 C (.lst (cs.map V.int ++ [.int y]))) a ∧ SmB a H (upd H5 C (.lst (cs.map V.int ++ [.int y]))) ∧ upd H5 C (.lst (cs.map V.int ++ [.int y])) C = some (.lst (cs'.map V.int)) ∧ upd H5 C (.lst (cs.map V.int ++ [.int y])) L = some (.lst (ls''.map V.int)) ∧
              Gd cs' 1 ls''.sum ∧ (∃ c, cs'[0]? = some c ∧ 1 ≤ c) ∧ (∀ x ∈ ls'', 0 ≤ x) ∧ (cs'.length : Int) + ls''.sum = t' ∧ t' ≤ 60 ∧ ls''.length ≤ cs'.length ∧ m' = 2 * (61 - cs'.length) + ls''.length := by
          intro ls' H5 lf5 sb5 hC5 hL5 es nn5 l5
          refine ⟨_, ?_, cs ++ [y], ls', t + y, _, rfl, lf5.own Ca, sb5.own nC, by rw [List.map_append]; exact upd_same, by rw [upd_ne LC]; exact hL5, ?_, ⟨c0, ?_, c1⟩, nn5, ?_, ty, ?_, rfl⟩
          · simp
            omega
          · have := gd.part (c := y) (by omega) y0 (by omega)
            rw [es]
            have e1 : i.sum + x - 1 + y = i.sum + x - 1 + y := rfl
            exact this
          · rw [List.getElem?_append_left (List.getElem?_eq_some_iff.mp hc0).1]
            exact hc0
          · rw [es]
            simp
            omega
          · simp
            omega
        refine ⟨_, rfl, _, _, rfl, rfl, _, rfl, ite2 (fun h1 => ?_) (fun h1 => ?_)⟩
        · have h1' : y > 0 := of_decide_eq_true h1
          refine ⟨_, rfl, .inl ⟨rfl, _, SqL.of hL4⟩, _, rfl, L, _, _, rfl, rfl, hL4, small1000 (by simp; omega), ?_⟩
          have eL : (i ++ [x - 1]).map V.int ++ [V.int y] = (i ++ [x - 1] ++ [y]).map V.int := by simp
          rw [eL]
          refine ⟨_, rfl, .inl ⟨rfl, _, SqL.of (by rw [upd_ne LC.symm]; exact hC4)⟩, _, rfl, C, _, _, rfl, rfl, (by rw [upd_ne LC.symm]; exact hC4), small1000 (by simp; omega), ?_⟩
          refine ⟨_, rfl, _, rfl, _, _, rfl, rfl, ?_⟩
          refine fin (i ++ [x - 1] ++ [y]) _ (lf4.own La) (sb4.own nL) (by rw [upd_ne LC.symm]; exact hC4) upd_same (by simp; omega) (fun u hu => ?_) (by simp)
          simp at hu
          rcases hu with hu | hu | hu
          · exact nni u hu
          · omega
          · omega
        · have h1' : y = 0 := by
            have : ¬ y > 0 := fun z => h1 (decide_eq_true z)
            omega
          subst h1'
          refine ⟨_, rfl, .inl ⟨rfl, _, SqL.of hC4⟩, _, rfl, C, _, _, rfl, rfl, hC4, small1000 (by simp; omega), ?_⟩
          refine ⟨_, rfl, _, rfl, _, _, rfl, rfl, ?_⟩
          refine fin (i ++ [x - 1]) _ lf4 sb4 hC4 hL4 (by simp; omega) (fun u hu => ?_) (by simp)
          simp at hu
          rcases hu with hu | hu
          · exact nni u hu
          · omega
      · refine ⟨_, rfl, L, _, rfl, .inl (SqL.of hL4), _, _, rfl, rfl, _, rfl, ite2 (fun h1 => ?_) (fun h1 => ?_)⟩
        · exact iteT (hN _ _ ⟨0, rfl, rfl, by decide, by decide, by omega⟩)
        · refine ⟨_, rfl, _, rfl, _, _, rfl, rfl, _, rfl, _, _, rfl, rfl, _, rfl, ite2 (fun h2 => ?_) (fun h2 => ?_)⟩
          · exact hN _ _ ⟨0, rfl, rfl, by decide, by decide, by omega⟩
          · have h2' : ¬ t + e > 60 := fun z => h2 (decide_eq_true z)
            exact hN _ _ ⟨e, rfl, rfl, e0, by omega, by omega⟩
end
end K43

namespace K43
open PySem PySem.Spec PyProof.Rows L2 GM TM TR
theorem sm_own {H H1 : Hp} {p : Addr} {o : HO} (h : Same H H1) (n : H p = none) : Same H (upd H1 p o) := fun b u e => by
  have ne : b ≠ p := fun z => by rw [z, n] at e; cases e
  rw [upd_ne ne]
  exact h b u e
theorem sm_none {H H1 : Hp} {p : Addr} (h : Same H H1) (n : H1 p = none) : H p = none := by
  cases e : H p with
  | none => rfl
  | some o => rw [h _ _ e] at n; cases n
theorem at4 (a b c d : Int) {l : Int} (h0 : 0 ≤ l) (h1 : l < 4) : ∃ v, (v = a ∨ v = b ∨ v = c ∨ v = d) ∧ atI [V.int a, .int b, .int c, .int d] l = some (.int v) := by
  have : l = 0 ∨ l = 1 ∨ l = 2 ∨ l = 3 := by omega
  rcases this with rfl | rfl | rfl | rfl
  · exact ⟨a, by simp, rfl⟩
  · exact ⟨b, by simp, rfl⟩
  · exact ⟨c, by simp, rfl⟩
  · exact ⟨d, by simp, rfl⟩
theorem flat_rep (n : Nat) : (List.replicate n [V.int 0]).flatten = (List.replicate n (0 : Int)).map V.int := by
  induction n with
  | zero => rfl
  | succ n ih => rw [List.replicate_succ, List.flatten_cons, ih, List.replicate_succ]; rfl
def spCounts (K : PySem.W.Frag) : Sp := fun vs H Q _ => ∃ (a : Addr) (ns : List Int), vs = [.ref a, .int 3, .int 63] ∧ SqL K H a (ns.map V.int) ∧ ∀ (cs : List Int) p H', Cts cs → Same H H' → H p = none → H' p = some (.lst (cs.map V.int)) → Q (.ref p) H'
section
variable {P : Program} {w : World} {K : PySem.W.Frag} {mg : Str → Option Value} {base : Heap}
theorem scCounts : FnScope ["_law_script", "_law_start", "_law_last", "_law_lean", "_law_counts_here", "_law_lacking", "_law_mine", "_law_k", "_law_number", "_law_many"] ["_law_script", "_law_start", "_law_last"] (defScope sCounts) := ⟨rfl, rfl, rfl, by decide +kernel, rfl, by decide +kernel, by decide +kernel⟩
theorem ok_counts {f : Addr} {fd : FuncData} (F : Fun K "_law_counts" "_law_counts" sCounts f fd) (T : Txt mg) (cC : Cal P w K mg base CX0 2 "_law_cell_at" ["_law_script", "_law_k"] (spCell K)) (cM : Cal P w K mg base CX0 2 "_law_mixed" ["_law_cell", "_law_k"] spMixed)
    (cF : Cal P w K mg base CX0 2 "_law_free_counts" ["_law_left", "_law_most"] spFreeC) : FnOk P w K mg base CX0 3 f fd ["_law_script", "_law_start", "_law_last"] (spCounts K) := by
  refine F.ok scCounts (fun vs H Q E h => ?_) (fun cdv A outer s H vs Q E hr h => ?_)
  · obtain ⟨_, _, rfl, _⟩ := h
    rfl
  · obtain ⟨a, ns, rfl, ha, k⟩ := h
    refine ⟨_, (pss_cons (ps_if (pt_cmpR op_eq (pe_op op_mod (pe_cal cC hr rfl pass0 (pa_cons (pv 0) (pa_cons pe_int pa_nil))) pe_int) pe_int (nomark _))
        (pss_one (ps_ret (pe_cal cF hr rfl pass0 (pa_cons (pe_lst (pa_cons (pe_callB call_abs rfl T.abs' bt_abs (pa_cons (pe_cal cC hr rfl pass0 (pa_cons (pv 0) (pa_cons (pv 1) pa_nil))) pa_nil)) pa_nil)) (pa_cons pe_int pa_nil)))))
        pss_nil)
      (pss_cons (ps_set (i := 3) scCounts.nd rfl (Or.inl rfl) (pe_op op_mod (pe_cal cC hr rfl pass0 (pa_cons (pv 0) (pa_cons pe_int pa_nil))) pe_int))
      (pss_cons (ps_set (i := 4) scCounts.nd rfl (Or.inl rfl) (pe_lst pa_nil))
      (pss_cons (ps_set (i := 5) scCounts.nd rfl (Or.inl rfl) (pe_lst pa_nil))
      (pss_cons (ps_set (i := 6) scCounts.nd rfl (Or.inl rfl) pe_int)
      (pss_cons (ps_for PassesOwn.never rfl (pi_range2 rfl T.range (pa_cons (pv 1) (pa_cons (pe_callB (call_min2 rfl) rfl T.min' boot_min (pa_cons (pe_callB call_len_seq rfl T.len PySem.boot_len (pa_cons (pv 0) pa_nil)) (pa_cons (pv 2) pa_nil))) pa_nil))) (pg_name (i := 7) scCounts.nd rfl (Or.inl rfl))
        (pss_cons (ps_while PassesOwn.never (PW.pt (pw_and (pt_cmpR (op_neE hr.units) (pv 5) (pe_lst pa_nil) (nomark _)) (pw_and1 (pt_cmpR op_eq (pe_ix ix_list (pv 5) (pe_un un_neg pe_int) (fun _ _ => rfl)) pe_int (nomark _)))))
        (pss_one (ps_expr (pe_bm0 PySem.F.plainAttrs_list PySem.F.slot_list_pop PySem.F.type_list_pop mt_pop (pv 5)))))
      (pss_cons (ps_if (pt_cmpR (op_eqE hr.units) (pv 5) (pe_lst pa_nil) (nomark _))
        (pss_one (ps_set (i := 6) scCounts.nd rfl (Or.inl rfl) (pe_op op_add (pv 6) pe_int)))
        (pss_one (ps_asg (pe_op op_sub (pe_ix ix_list (pv 5) (pe_un un_neg pe_int) (fun _ _ => rfl)) pe_int) (pg_sub (pv 5) (pe_un un_neg pe_int) set_list))))
      (pss_cons (ps_set (i := 8) scCounts.nd rfl (Or.inl rfl) (pe_cal cM hr rfl pass0 (pa_cons (pe_ix ix_list (pv 0) (pv 7) (fun _ _ => rfl)) (pa_cons (pv 7) pa_nil))))
      (pss_cons (ps_set (i := 9) scCounts.nd rfl (Or.inl rfl) pe_int)
      (pss_cons (ps_if (PW.pt (pw_and (pt_cmpR op_lt (pe_callB call_len_seq rfl T.len PySem.boot_len (pa_cons (pv 5) pa_nil)) pe_int (nomark _)) (pw_and1 (pt_cmpR op_lt (pe_op op_mod (pv 8) pe_int) (pe_ix ix_list (pe_lst (pa_cons pe_int (pa_cons pe_int (pa_cons pe_int (pa_cons pe_int pa_nil))))) (pv 3) (fun _ _ => rfl)) (nomark _)))))
        (pss_cons (ps_set (i := 9) scCounts.nd rfl (Or.inl rfl) (pe_op op_add pe_int (pe_op op_mod (pe_op op_fdivB (pv 8) pe_int) (pe_ix ix_list (pe_lst (pa_cons pe_int (pa_cons pe_int (pa_cons pe_int (pa_cons pe_int pa_nil))))) (pv 3) (fun _ _ => rfl)))))
      (pss_one (ps_expr (pe_bm PySem.F.plainAttrs_list PySem.F.slot_list_append PySem.F.type_list_append mt_append (pv 5) (pa_cons (pv 9) pa_nil)))))
        pss_nil)
      (pss_one (ps_expr (pe_bm PySem.F.plainAttrs_list PySem.F.slot_list_append PySem.F.type_list_append mt_append (pv 4) (pa_cons (pv 9) pa_nil))))))))))
      (pss_cons (ps_if (pt_cmpR op_eq (pv 6) pe_int (nomark _))
        (pss_one (ps_ret (pe_lst (pa_cons pe_int (pa_cons pe_int pa_nil)))))
        pss_nil)
      (pss_one (ps_ret (pe_op op_cat (pe_op op_cat (pe_lst (pa_cons (pv 6) pa_nil)) (pv 4)) (pe_op op_rep (pe_lst (pa_cons pe_int pa_nil)) (pe_callB (call_sum rfl) rfl T.sum' boot_sum (pa_cons (pv 5) pa_nil))))))))))))), ?_⟩
    refine ⟨_, rfl, a, ns, 0, rfl, ha, by decide, fun c0 => ⟨_, _, rfl, rfl, (by show (0 : Int) < 2; decide), rfl, _, rfl, ite2 (fun _ => ?_) (fun _ => ?_)⟩⟩
    · refine ⟨_, rfl, _, rfl, a, ns, 3, rfl, ha, by decide, fun c3 => ⟨c3, rfl, (by show 1 ≤ sizeLine; decide), fun z hz => ⟨z, rfl, ⟨_, upd_same, by split <;> omega⟩, fun cs p H' ct sb hp pz hp' => ?_⟩⟩⟩
      refine k cs p H' ct (fun b o e => sb b o (ne_of_none e hz) (by rw [upd_ne (ne_of_none e hz)]; exact e)) ?_ hp'
      rw [upd_ne pz] at hp
      exact hp
    refine ⟨_, rfl, a, ns, 2, rfl, ha, by decide, fun c2 => ⟨_, _, rfl, rfl, (by show (0 : Int) < 4; decide), ?_⟩⟩
    have le := emod_in c2 (m := 4) (by decide)
    obtain ⟨lean, el⟩ : ∃ l, l = c2 % 4 := ⟨_, rfl⟩
    rw [← el] at le
    refine ⟨(by show 0 ≤ sizeLine; decide), fun C hC => ⟨(by show 0 ≤ sizeLine; decide), fun L hL => ?_⟩⟩
    have LC : L ≠ C := fun z => by rw [z, upd_same] at hL; cases hL
    have nL : H L = none := by rw [upd_ne LC] at hL; exact hL
    have sm0 : Same H (upd (upd H C (.lst [])) L (.lst [])) := (Same.upd hC).trans (Same.upd hL)
    refine ⟨_, rfl, _, rfl, a, _, rfl, .inl (sm0.seq ha), _, rfl, _, _, rfl, 3, _, rfl, ⟨by decide, by decide, by split <;> omega, by split <;> omega⟩, ?_⟩
    have hn : ((if (63 : Int) < ((ns.map V.int).length : Nat) then (63 : Int) else ((ns.map V.int).length : Nat)) - 3).toNat ≤ 60 ∧ ∀ i, i < ((if (63 : Int) < ((ns.map V.int).length : Nat) then (63 : Int) else ((ns.map V.int).length : Nat)) - 3).toNat → 3 + i < ns.length := by
      rw [List.length_map]
      split
      · exact ⟨by omega, fun i hi => by omega⟩
      · exact ⟨by omega, fun i hi => by omega⟩
    generalize ((if (63 : Int) < ((ns.map V.int).length : Nat) then (63 : Int) else ((ns.map V.int).length : Nat)) - 3).toNat = n at hn ⊢
    refine for_range (fun i σ H' => ∃ (cs ls : List Int) (mi : Int) (v7 v8 v9 : Option V), σ = [some (.ref a), some (.int 3), some (.int 63), some (.int lean), some (.ref C), some (.ref L), some (.int mi), v7, v8, v9] ∧ Same H H' ∧ H' C = some (.lst (cs.map V.int)) ∧ H' L = some (.lst (ls.map V.int)) ∧
      Gd cs mi ls.sum ∧ (∀ x ∈ ls, 0 ≤ x ∧ x ≤ 4) ∧ ls.length ≤ 8 ∧ cs.length = i ∧ 0 ≤ mi ∧ mi ≤ i) ⟨[], [], 0, none, none, none, by rw [el]; rfl, sm0, by rw [upd_ne LC.symm]; exact upd_same, upd_same, Gd.nil, (fun _ h => nomatch h), by decide, rfl, by decide, by decide⟩ ?_ ?_
    · rintro i σ H1 hi ⟨cs, ls, mi, v7, v8, v9, rfl, sm, hC1, hL1, gd, nn, l8, cl, m0, mi1⟩
      dsimp only [gName]
      refine seq_nx (fun σ' H' => ∃ ls' : List Int, σ' = [some (.ref a), some (.int 3), some (.int 63), some (.int lean), some (.ref C), some (.ref L), some (.int mi), some (.int (3 + i)), v8, v9] ∧ Same H H' ∧ H' C = some (.lst (cs.map V.int)) ∧ H' L = some (.lst (ls'.map V.int)) ∧ ls'.sum = ls.sum ∧ (∀ x ∈ ls', 0 ≤ x ∧ x ≤ 4) ∧ ls'.length ≤ 8 ∧ (ls' = [] ∨ ∃ j x, ls' = j ++ [x] ∧ 1 ≤ x)) ?_ (fun N hN => ?_)
      · rintro σ' H2 ⟨ls', rfl, sm2, hC2, hL2, es, nn2, l82, alt⟩
        refine seq_nx (fun σ' H' => ∃ (ls2 : List Int) (m2 : Int), σ' = [some (.ref a), some (.int 3), some (.int 63), some (.int lean), some (.ref C), some (.ref L), some (.int m2), some (.int (3 + i)), v8, v9] ∧ Same H H' ∧ H' C = some (.lst (cs.map V.int)) ∧ H' L = some (.lst (ls2.map V.int)) ∧ (∀ c : Int, 0 ≤ c → c < 64 → Gd (cs ++ [c]) m2 (ls2.sum + c)) ∧ (∀ x ∈ ls2, 0 ≤ x ∧ x ≤ 4) ∧ ls2.length ≤ 8 ∧ 0 ≤ m2 ∧ m2 ≤ i + 1) ?_ (fun N hN => ?_)
        · rintro σ' H3 ⟨ls2, m2, rfl, sm3, hC3, hL3, gd3, nn3, l83, m20, m21⟩
          obtain ⟨ck, hck⟩ : ∃ c, ns[3 + i]? = some c := ⟨_, List.getElem?_eq_getElem (hn.2 i hi)⟩
          refine ⟨_, rfl, _, rfl, a, _, _, .int ck, rfl, rfl, sm3.seq ha, (by have e : (3 : Int) + (i : Nat) = ((3 + i : Nat) : Int) := by omega
                                                                              rw [e]; exact atI_nat (by rw [List.getElem?_map, hck]; rfl)), _, rfl, ck, _, rfl, by omega, by omega, fun u u0 ul => ?_⟩
          have bu : Bt 64 u := bt_lt 64 u0 ul
          dsimp only [gName]
          refine seq_nx2 (fun σ' H' => ∃ (ls4 : List Int) (y : Int), σ' = [some (.ref a), some (.int 3), some (.int 63), some (.int lean), some (.ref C), some (.ref L), some (.int m2), some (.int (3 + i)), some (.int u), some (.int y)] ∧ Same H H' ∧ H' C = some (.lst (cs.map V.int)) ∧ H' L = some (.lst (ls4.map V.int)) ∧ ls4.sum = ls2.sum + y ∧ (∀ x ∈ ls4, 0 ≤ x ∧ x ≤ 4) ∧ ls4.length ≤ 8 ∧ 0 ≤ y ∧ y ≤ 4) ?_ (fun N hN => ?_)
          · rintro σ' H4 ⟨ls4, y, rfl, sm4, hC4, hL4, es4, nn4, l84, y0, y4⟩
            refine ⟨_, rfl, .inl ⟨rfl, _, SqL.of hC4⟩, _, rfl, C, _, _, rfl, rfl, hC4, small1000 (by simp; omega), ?_⟩
            have eC : cs.map V.int ++ [V.int y] = (cs ++ [y]).map V.int := by simp
            rw [eC]
            refine ⟨cs ++ [y], ls4, m2, _, _, _, rfl, sm_own sm4 hC, upd_same, by rw [upd_ne LC]; exact hL4, ?_, nn4, l84, by simp [cl], m20, by omega⟩
            rw [es4]
            exact gd3 y y0 (by omega)
          · have no : ∀ H5, Same H H5 → H5 C = some (.lst (cs.map V.int)) → H5 L = some (.lst (ls2.map V.int)) → N [some (.ref a), some (.int 3), some (.int 63), some (.int lean), some (.ref C), some (.ref L), some (.int m2), some (.int (3 + i)), some (.int u), some (.int 0)] H5 :=
              fun H5 a1 a2 a3 => hN _ _ ⟨ls2, 0, rfl, a1, a2, a3, by omega, nn3, l83, by decide, by decide⟩
            obtain ⟨g1, _, hg1⟩ := at4 5 6 4 7 le.1 le.2
            obtain ⟨g2, hg2', hg2⟩ := at4 2 4 3 2 le.1 le.2
            refine ⟨_, rfl, L, _, rfl, .inl (SqL.of hL3), _, _, rfl, rfl, _, rfl, ite2 (fun h1 => ?_) (fun h1 => iteF (no _ sm3 hC3 hL3))⟩
            have h1' : ((ls2.map V.int).length : Int) < 8 := of_decide_eq_true h1
            rw [List.length_map] at h1'
            refine ⟨_, rfl, _, _, rfl, rfl, (by show (0 : Int) < 8; decide), (by show 4 ≤ sizeLine; decide), fun z hz => ⟨_, rfl, z, _, lean, .int g1, rfl, rfl, SqL.of upd_same, hg1, _, _, rfl, rfl, _, rfl, ?_⟩⟩
            have nz : H z = none := sm_none sm3 hz
            have zC : C ≠ z := fun e => by rw [← e, hC3] at hz; cases hz
            have zL : L ≠ z := fun e => by rw [← e, hL3] at hz; cases hz
            have sm4 := sm_own (o := HO.lst [.int 5, .int 6, .int 4, .int 7]) sm3 nz
            have hC4 : upd H3 z (.lst [.int 5, .int 6, .int 4, .int 7]) C = some (.lst (cs.map V.int)) := by rw [upd_ne zC]; exact hC3
            have hL4 : upd H3 z (.lst [.int 5, .int 6, .int 4, .int 7]) L = some (.lst (ls2.map V.int)) := by rw [upd_ne zL]; exact hL3
            refine ite2 (fun h2 => ?_) (fun h2 => no _ sm4 hC4 hL4)
            generalize upd H3 z (.lst [.int 5, .int 6, .int 4, .int 7]) = H4 at sm4 hC4 hL4 ⊢
            refine ⟨_, rfl, _, _, rfl, rfl, ⟨by decide, b9⟩, (by show 4 ≤ sizeLine; decide), fun z2 hz2 => ⟨_, rfl, z2, _, lean, .int g2, rfl, rfl, SqL.of upd_same, hg2, _, _, rfl, rfl, (by show 0 < g2; omega), _, _, rfl, rfl, ?_⟩⟩
            have nz2 : H z2 = none := sm_none sm4 hz2
            have zC2 : C ≠ z2 := fun e => by rw [← e, hC4] at hz2; cases hz2
            have zL2 : L ≠ z2 := fun e => by rw [← e, hL4] at hz2; cases hz2
            have eg := emod_in (u / 8) (show 0 < g2 by omega)
            refine ⟨_, rfl, .inl ⟨rfl, _, SqL.of (by rw [upd_ne zL2]; exact hL4)⟩, _, rfl, L, _, _, rfl, rfl, (by rw [upd_ne zL2]; exact hL4), small1000 (by simp; omega), ?_⟩
            have eL : ls2.map V.int ++ [V.int (1 + u / 8 % g2)] = (ls2 ++ [1 + u / 8 % g2]).map V.int := by simp
            rw [eL]
            refine hN _ _ ⟨ls2 ++ [1 + u / 8 % g2], 1 + u / 8 % g2, rfl, sm_own (sm_own sm4 nz2) nL, by rw [upd_ne LC.symm, upd_ne zC2]; exact hC4, upd_same, by simp, fun x hx => ?_, by simp; omega, by omega, by omega⟩
            rcases List.mem_append.mp hx with h | h
            · exact nn3 x h
            · have := List.mem_singleton.mp h
              omega
        · refine ⟨_, rfl, (by show 0 ≤ sizeLine; decide), fun z hz => ?_⟩
          have nz : H z = none := sm_none sm2 hz
          have zC : C ≠ z := fun e => by rw [← e, hC2] at hz; cases hz
          have zL : L ≠ z := fun e => by rw [← e, hL2] at hz; cases hz
          have sm3 := sm_own (o := HO.lst []) sm2 nz
          have hC3 : upd H2 z (.lst []) C = some (.lst (cs.map V.int)) := by rw [upd_ne zC]; exact hC2
          have hL3 : upd H2 z (.lst []) L = some (.lst (ls'.map V.int)) := by rw [upd_ne zL]; exact hL2
          refine ⟨L, z, _, rfl, rfl, SqL.of hL3, SqL.of upd_same, _, rfl, ?_⟩
          generalize upd H2 z (.lst []) = H3 at sm3 hC3 hL3 ⊢
          rcases alt with rfl | ⟨j, x, rfl, x1⟩
          · refine iteT ⟨_, rfl, _, _, rfl, rfl, ?_⟩
            refine hN _ _ ⟨[], mi + 1, rfl, sm3, hC3, hL3, fun c c0 c1 => ?_, (fun _ h => nomatch h), by decide, by omega, by omega⟩
            have e0 : ls.sum = 0 := es.symm
            rw [e0] at gd
            have := gd.root c0 c1
            simpa using this
          · have ene : ((j ++ [x]).map V.int).isEmpty = false := by simp
            rw [ene]
            refine iteF ⟨_, rfl, _, rfl, L, _, -1, .int x, rfl, rfl, SqL.of hL3, last_at j x, _, _, rfl, rfl, _, rfl, _, rfl, L, _, -1, j.length, rfl, rfl, hL3, last_ix j x, ?_⟩
            rw [last_set]
            have nnj : ∀ y ∈ j, 0 ≤ y := fun y hy => (nn2 y (by simp [hy])).1
            have j0 := sum_nn nnj
            rw [sum_snoc] at es
            refine hN _ _ ⟨j ++ [x - 1], mi, rfl, sm_own sm3 nL, by rw [upd_ne LC.symm]; exact hC3, upd_same, fun c c0 c1 => ?_, fun y hy => ?_, by simpa using l82, m0, by omega⟩
            · have := gd.part (c := c) (by omega) c0 c1
              have e : (j ++ [x - 1]).sum + c = ls.sum - 1 + c := by rw [sum_snoc]; omega
              rw [e]
              exact this
            · rcases List.mem_append.mp hy with h | h
              · exact nn2 y (by simp [h])
              · have := List.mem_singleton.mp h
                have := nn2 x (by simp)
                omega
      · refine ⟨fun m σ' H' => ∃ ls' : List Int, σ' = [some (.ref a), some (.int 3), some (.int 63), some (.int lean), some (.ref C), some (.ref L), some (.int mi), some (.int (3 + i)), v8, v9] ∧ Same H H' ∧ H' C = some (.lst (cs.map V.int)) ∧ H' L = some (.lst (ls'.map V.int)) ∧ ls'.sum = ls.sum ∧ (∀ x ∈ ls', 0 ≤ x ∧ x ≤ 4) ∧ ls'.length ≤ 8 ∧ m = ls'.length,
          ⟨_, ls, rfl, sm, hC1, hL1, rfl, nn, l8, rfl⟩, ?_⟩
        rintro m σ' H2 ⟨ls', rfl, sm2, hC2, hL2, es, nn2, l82, rfl⟩
        refine ⟨_, rfl, (by show 0 ≤ sizeLine; decide), fun z hz => ?_⟩
        have nz : H z = none := sm_none sm2 hz
        have zC : C ≠ z := fun e => by rw [← e, hC2] at hz; cases hz
        have zL : L ≠ z := fun e => by rw [← e, hL2] at hz; cases hz
        have sm3 := sm_own (o := HO.lst []) sm2 nz
        have hC3 : upd H2 z (.lst []) C = some (.lst (cs.map V.int)) := by rw [upd_ne zC]; exact hC2
        have hL3 : upd H2 z (.lst []) L = some (.lst (ls'.map V.int)) := by rw [upd_ne zL]; exact hL2
        refine ⟨L, z, _, rfl, rfl, SqL.of hL3, SqL.of upd_same, _, rfl, ?_⟩
        generalize upd H2 z (.lst []) = H3 at sm3 hC3 hL3 ⊢
        rcases nil_or_snoc ls' with rfl | ⟨j, x, rfl⟩
        · exact iteF (iteF (hN _ _ ⟨[], rfl, sm3, hC3, hL3, es, nn2, l82, .inl rfl⟩))
        · have ene : (!((j ++ [x]).map V.int).isEmpty) = true := by simp
          rw [ene]
          refine iteT ⟨_, rfl, _, rfl, L, _, -1, .int x, rfl, rfl, SqL.of hL3, last_at j x, rfl, _, rfl, ite2 (fun h0 => ?_) (fun h0 => ?_)⟩
          · have ex : x = 0 := by simpa [eqV] using h0
            subst ex
            refine ⟨_, fun σ' H' h => h, _, rfl, .inl ⟨rfl, _, SqL.of hL3⟩, L, _, .int 0, rfl, rfl, hL3, by simp, ?_⟩
            have ed : ((j ++ [(0 : Int)]).map V.int).dropLast = j.map V.int := by simp
            rw [ed]
            exact ⟨j.length, by simp, j, rfl, sm_own sm3 nL, by rw [upd_ne LC.symm]; exact hC3, upd_same, by rw [← es]; simp, fun y hy => nn2 y (by simp [hy]), by simp at l82; omega, rfl⟩
          · have ex : x ≠ 0 := by simpa [eqV] using h0
            have := (nn2 x (by simp)).1
            exact hN _ _ ⟨j ++ [x], rfl, sm3, hC3, hL3, es, nn2, l82, .inr ⟨j, x, rfl, by omega⟩⟩
    · rintro σ H1 ⟨cs, ls, mi, v7, v8, v9, rfl, sm, hC1, hL1, gd, nn, l8, cl, m0, mi1⟩
      refine ⟨_, rfl, rfl, _, rfl, ite2 (fun h0 => ?_) (fun h0 => ?_)⟩
      · refine ⟨(by show 2 ≤ sizeLine; decide), fun z hz => ?_⟩
        exact k [1, 0] z _ ⟨⟨⟨trivial, by decide, by decide, by decide⟩, by decide, by decide, by decide⟩, ⟨1, rfl, by decide⟩, by decide, by decide⟩ (sm_own sm (sm_none sm hz)) (sm_none sm hz) upd_same
      · have m1 : mi ≠ 0 := by simpa [eqV] using h0
        have s0 := sum_nn fun x hx => (nn x hx).1
        have s4 := sum_le fun x hx => (nn x hx).2
        refine ⟨_, rfl, (by show 1 ≤ sizeLine; decide), fun z hz => ?_⟩
        have zC : C ≠ z := fun e => by rw [← e, hC1] at hz; cases hz
        have zL : L ≠ z := fun e => by rw [← e, hL1] at hz; cases hz
        refine ⟨_, rfl, z, C, _, _, rfl, rfl, upd_same, (by rw [upd_ne zC]; exact hC1), sz1000 (by simp; omega), fun p hp => ?_⟩
        have pz : p ≠ z := fun e => by rw [e, upd_same] at hp; cases hp
        have hp1 : H1 p = none := by rw [upd_ne pz] at hp; exact hp
        have pL : L ≠ p := fun e => by rw [← e, hL1] at hp1; cases hp1
        refine ⟨(by show 1 ≤ sizeLine; decide), fun z2 hz2 => ?_⟩
        have z2p : p ≠ z2 := fun e => by rw [← e, upd_same] at hz2; cases hz2
        have hz2' : upd H1 z (.lst [.int mi]) z2 = none := by rw [upd_ne z2p.symm] at hz2; exact hz2
        have z2z : z2 ≠ z := fun e => by rw [e, upd_same] at hz2'; cases hz2'
        have hz21 : H1 z2 = none := by rw [upd_ne z2z] at hz2'; exact hz2'
        have z2L : L ≠ z2 := fun e => by rw [← e, hL1] at hz21; cases hz21
        refine ⟨_, rfl, L, ls, rfl, SqL.of (by rw [upd_ne z2L, upd_ne pL, upd_ne zL]; exact hL1), ?_⟩
        refine ⟨z2, _, _, rfl, rfl, upd_same, by omega, by omega, (by show 1 * ls.sum.toNat ≤ sizeLine; exact sz1000 (by omega)), fun p2 hp2 => ?_⟩
        have p2z2 : p2 ≠ z2 := fun e => by rw [e, upd_same] at hp2; cases hp2
        have hp2' := hp2
        rw [upd_ne p2z2] at hp2'
        have p2p : p2 ≠ p := fun e => by rw [e, upd_same] at hp2'; cases hp2'
        rw [upd_ne p2p] at hp2'
        have p2z : p2 ≠ z := fun e => by rw [e, upd_same] at hp2'; cases hp2'
        rw [upd_ne p2z] at hp2'
        refine ⟨p, p2, _, _, rfl, rfl, (by rw [upd_ne p2p.symm, upd_ne z2p]; exact upd_same), upd_same, ?_, fun r hr' => ?_⟩
        · rw [flat_rep]
          simp
          exact sz1000 (by omega)
        · rw [flat_rep] at hr' ⊢
          have e : [V.int mi] ++ cs.map V.int ++ (List.replicate ls.sum.toNat (0 : Int)).map V.int = (mi :: (cs ++ List.replicate ls.sum.toNat 0)).map V.int := by simp
          rw [e]
          have smA : Same H (upd (upd (upd (upd H1 z (.lst [.int mi])) p (.lst ([V.int mi] ++ cs.map V.int))) z2 (.lst [.int 0])) p2 (.lst ((List.replicate ls.sum.toNat (0 : Int)).map V.int))) :=
            sm_own (sm_own (sm_own (sm_own sm (sm_none sm hz)) (sm_none sm hp1)) (sm_none sm hz21)) (sm_none sm hp2')
          have es : ((ls.sum.toNat : Nat) : Int) = ls.sum := by omega
          refine k _ r _ ⟨Gd.whole (l := ls.sum.toNat) (by rw [es]; exact gd) m0 (by omega), ⟨mi, rfl, by omega⟩, ?_, ?_⟩ (sm_own smA (sm_none smA hr')) (sm_none smA hr') upd_same
          · simp
            omega
          · have h1 : nzc (mi :: (cs ++ List.replicate ls.sum.toNat 0)) ≤ 1 + nzc (cs ++ List.replicate ls.sum.toNat 0) := by
              rw [nzc_ne _ m1]
              omega
            rw [nzc_app, nzc_zeros] at h1
            have := nzc_le cs
            omega
end
end K43

namespace K43
open PySem PySem.Spec PyProof.Rows L2 GM TM TR
def spAdd : Sp := fun vs H Q _ => ∃ (m1 m2 : Addr) (n1 n2 : Nat), vs = [.ref m1, .ref m2] ∧ Am H m1 n1 ∧ Am H m2 n2 ∧ 1 ≤ n1 ∧ 1 ≤ n2 ∧ n1 + n2 ≤ 140 ∧ ∀ p H', Same H H' → H p = none → Am H' p (n1 + n2) → Q (.ref p) H'
def spTotal : Sp := fun vs H Q _ => ∃ (q : Addr) (cs : List Pt), vs = [.ref q] ∧ H q = some (.tup (cs.map (·.1))) ∧ (∃ n : Nat, ∀ c ∈ cs, Tr H n c.1 c.2.1 c.2.2) ∧ 1 + szs cs ≤ 140 ∧ ∀ p H', Same H H' → H p = none → Am H' p (1 + szs cs) → Q (.ref p) H'
section
variable {P : Program} {w : World} {K : PySem.W.Frag} {mg : Str → Option Value} {base : Heap}
theorem scAdd : FnScope ["_law_one", "_law_other"] ["_law_one", "_law_other"] (defScope sAdd) := ⟨rfl, rfl, rfl, by decide +kernel, rfl, by decide +kernel, by decide +kernel⟩
theorem ok_add {f : Addr} {fd : FuncData} (F : Fun K "_law_add" "_law_add" sAdd f fd) (cL : Cal P w K mg base CX0 1 "_law_lowest" ["_law_top", "_law_bottom"] spLowest) : FnOk P w K mg base CX0 2 f fd ["_law_one", "_law_other"] spAdd := by
  refine F.ok scAdd (fun vs H Q E h => ?_) (fun cdv A outer s H vs Q E hr h => ?_)
  · obtain ⟨_, _, _, _, rfl, _⟩ := h
    rfl
  · obtain ⟨m1, m2, n1, n2, rfl, ⟨t1, b1, h1, t10, b11, st1, sb1⟩, ⟨t2, b2, h2, t20, b21, st2, sb2⟩, l1, l2, l, k⟩ := h
    refine ⟨_, (pss_one (ps_ret (pe_cal cL hr rfl pass0 (pa_cons (pe_op op_add (pe_op op_mulB (pit 0 0) (pit 1 1)) (pe_op op_mulB (pit 1 0) (pit 0 1))) (pa_cons (pe_op op_mulB (pit 0 1) (pit 1 1)) pa_nil))))), ?_⟩
    have w1 : ∀ {x : Int}, Bt (64 * n1 - 1) x → Bt 1000000 x := fun h => h.mono (by omega)
    have w2 : ∀ {x : Int}, Bt (64 * n2 - 1) x → Bt 1000000 x := fun h => h.mono (by omega)
    have S1 := SqT.of (K := K) h1
    have S2 := SqT.of (K := K) h2
    refine ⟨m1, _, _, rfl, S1, rfl, m2, _, _, rfl, S2, rfl, _, _, rfl, rfl, ⟨w1 st1, w2 sb2⟩, m2, _, _, rfl, S2, rfl, m1, _, _, rfl, S1, rfl, _, _, rfl, rfl, ⟨w2 st2, w1 sb1⟩, _, _, rfl, rfl, m1, _, _, rfl, S1, rfl, m2, _, _, rfl, S2, rfl, _, _, rfl, rfl, ⟨w1 sb1, w2 sb2⟩, ?_⟩
    have p1 : 0 ≤ t1 * b2 := Int.mul_nonneg t10 (by omega)
    have p2 : 0 ≤ t2 * b1 := Int.mul_nonneg t20 (by omega)
    have pb : 1 ≤ b1 * b2 := Int.mul_pos (by omega) (by omega)
    have sb : Bt (64 * (n1 + n2) - 1) (b1 * b2) := (sb1.mul sb2).mono (by omega)
    have e1 : Bt (64 * (n1 + n2) - 2) (t1 * b2) := (st1.mul sb2).mono (by omega)
    have e2 : Bt (64 * (n1 + n2) - 2) (t2 * b1) := (st2.mul sb1).mono (by omega)
    have st : Bt (64 * (n1 + n2) - 1) (t1 * b2 + t2 * b1) := (e1.add e2).mono (by omega)
    refine ⟨_, _, rfl, by omega, pb, sb.mono (by omega), fun p H' sm np hp => k p H' sm np ⟨_, _, hp, ?_, ?_, ?_, ?_⟩⟩
    · exact Int.ediv_nonneg (by omega) (Int.le_of_lt (G_pos (by omega)))
    · have g := G_pos (a := t1 * b2 + t2 * b1) (b := b1 * b2) (by omega)
      exact (Int.le_ediv_iff_mul_le g).mpr (by have := G_le_r (a := t1 * b2 + t2 * b1) (b := b1 * b2) (by omega); omega)
    · exact st.div (by omega)
    · exact sb.div (by omega)
theorem scTotal : FnScope ["_law_parts", "_law_found", "_law_part"] ["_law_parts"] (defScope sTotal) := ⟨rfl, rfl, rfl, by decide +kernel, rfl, by decide +kernel, by decide +kernel⟩
theorem ok_total {f : Addr} {fd : FuncData} (F : Fun K "_law_total" "_law_total" sTotal f fd) (cA : Cal P w K mg base CX0 2 "_law_add" ["_law_one", "_law_other"] spAdd) : FnOk P w K mg base CX0 3 f fd ["_law_parts"] spTotal := by
  refine F.ok scTotal (fun vs H Q E h => ?_) (fun cdv A outer s H vs Q E hr h => ?_)
  · obtain ⟨_, _, rfl, _⟩ := h
    rfl
  · obtain ⟨q, cs, rfl, hq, ⟨nn, hc⟩, l, k⟩ := h
    refine ⟨_, (pss_cons (ps_set (i := 1) scTotal.nd rfl (Or.inl rfl) (pe_tup (pa_cons pe_int (pa_cons pe_int pa_nil))))
      (pss_cons (ps_for PassesOwn.never rfl (pi_tup (pv 0)) (pg_name (i := 2) scTotal.nd rfl (Or.inl rfl))
        (pss_one (ps_set (i := 1) scTotal.nd rfl (Or.inl rfl) (pe_cal cA hr rfl pass0 (pa_cons (pv 1) (pa_cons (pit 2 2) pa_nil))))))
      (pss_one (ps_ret (pv 1))))), ?_⟩
    refine ⟨(by show 2 ≤ sizeLine; decide), fun z hz => ?_⟩
    have sm0 : Same H (upd H z (.tup [.int 0, .int 1])) := Same.upd hz
    refine ⟨_, rfl, q, rfl, ⟨_, SqT.of (sm0 _ _ hq)⟩, ?_⟩
    have sl : ∀ i, szs (cs.take i) ≤ szs cs := fun i => by
      have := szs_append (cs.take i) (cs.drop i)
      rw [List.take_append_drop] at this
      omega
    refine for_tup (fun i σ H' => ∃ (m : Addr) (v2 : Option V), σ = [some (.ref q), some (.ref m), v2] ∧ Same H H' ∧ H m = none ∧ Am H' m (1 + szs (cs.take i))) ⟨z, none, rfl, sm0, hz, ⟨0, 1, upd_same, by decide, by decide, ?_, ?_⟩⟩ (fun i σ H' _ ⟨_, _, _, sm, _⟩ => SqT.of (sm _ _ hq)) ?_ ?_
    · exact bt_lt 63 (c := 1) (by decide) (by decide)
    · exact bt_lt 63 (c := 2) (by decide) (by decide)
    · rintro i v σ H1 hv ⟨m, v2, rfl, sm, hm, am⟩
      rw [List.getElem?_map] at hv
      cases e : cs[i]? with
      | none => rw [e] at hv; cases hv
      | some c =>
        rw [e] at hv
        cases hv
        have ht := (hc c (List.mem_of_getElem? e)).keep sm.tk
        have es : szs (cs.take (i + 1)) = szs (cs.take i) + c.2.1 := by
          rw [List.take_add_one, e, szs_append]
          show _ + szs [c] = _
          rw [szs_cons]
          rfl
        have s1 := ht.size
        have := sl (i + 1)
        obtain ⟨p, a, y, x, xs, ev, hp, amc⟩ := ht.shows
        refine ⟨_, rfl, p, _, _, (by show some (some c.1) = _; rw [ev]), SqT.of hp, rfl, m, a, _, _, rfl, am, amc, by omega, s1, by omega, fun r H2 s2 hr2 am2 => ?_⟩
        refine ⟨r, _, rfl, sm.trans s2, sm_none sm hr2, ?_⟩
        rw [es]
        have e3 : 1 + szs (cs.take i) + c.2.1 = 1 + (szs (cs.take i) + c.2.1) := by omega
        rw [← e3]
        exact am2
    · rintro σ H1 ⟨m, v2, rfl, sm, hm, am⟩
      rw [List.length_map, List.take_length] at am
      exact ⟨_, rfl, k m H1 sm hm am⟩
end
end K43

namespace K43
open PySem PySem.Spec PyProof.Rows L2 GM TM TR
theorem sb_tk {a : Addr} {H H' : Hp} (s : SmB a H H') (l : Lf H a) : Tk H H' := by
  obtain ⟨n, e, _⟩ := l
  exact Bx.tk s e
def spFreeR : Sp := fun vs H Q _ => ∃ (a ws c : Addr) (wr : List Str) (cs : List Int), vs = [.ref a, .ref ws, .ref c] ∧ Lf H a ∧ H ws = some (.lst (wr.map V.str)) ∧ wr.length = 6 ∧ H c = some (.lst (cs.map V.int)) ∧ ws ≠ a ∧ c ≠ a ∧ Cts cs ∧
  ∀ v n d H', SmB a H H' → Tr H' 62 v n d → n ≤ 100 → 1 ≤ d → Q v H'
def spRoot (K : PySem.W.Frag) : Sp := fun vs H Q _ => ∃ (a ws c : Addr) (ns : List Int) (wr : List Str) (cs : List Int), vs = [.ref a, .ref ws, .ref c] ∧ SqL K H a (ns.map V.int) ∧ H ws = some (.lst (wr.map V.str)) ∧ wr.length = 6 ∧ H c = some (.lst (cs.map V.int)) ∧ Cts cs ∧
  ∀ v n d H', Same H H' → Tr H' 62 v n d → n ≤ 100 → 1 ≤ d → Q v H'
theorem pile_end {H : Hp} {cs : List Int} {pl : List Pt} (h : Pile H cs cs.length pl) (ct : Cts cs) : ∃ (v : Pt) (d : Int), Tr H 62 v.1 v.2.1 d ∧ v.2.1 ≤ 100 ∧ 1 ≤ d ∧ atI (pl.map (·.1)) (-1) = some v.1 := by
  obtain ⟨c0, hc0, c1⟩ := ct.hd
  have l1 : 1 ≤ cs.length := (List.getElem?_eq_some_iff.mp hc0).1
  obtain ⟨pl', q, rfl, hq⟩ := h.hd l1
  have d1 := hq c0 (by rw [Nat.sub_self]; exact hc0) c1
  have sz := h.sz
  have := szs_mem (cs := pl' ++ [q]) (c := q) (by simp)
  have := ct.ln
  have nz := ct.nz
  have tq := h.tr q (by simp)
  rw [Nat.sub_self, List.drop_zero] at tq
  exact ⟨q, q.2.2, tq.up (by omega), by omega, d1, by rw [List.map_append]; exact atI_last _ _⟩
section
variable {P : Program} {w : World} {K : PySem.W.Frag} {mg : Str → Option Value} {base : Heap}
theorem ndKP : (["_law_k", "_law_pile"] : List Str).Nodup := by decide +kernel
theorem scFreeR : FnScope ["_law_left", "_law_wares_here", "_law_counts_here", "_law_letters", "_law_pile", "_law_place", "_law_ware", "_law_top", "_law_parts", "_law_word", "_law_j", "_law_tail"] ["_law_left", "_law_wares_here", "_law_counts_here"] (defScope sFreeR) := ⟨rfl, rfl, rfl, by decide +kernel, rfl, by decide +kernel, by decide +kernel⟩
theorem ok_freer {f : Addr} {fd : FuncData} (F : Fun K "_law_free_root" "_law_free_root" sFreeR f fd) (T : Txt mg) (cD : Cal P w K mg base CX0 3 "_law_digit" ["_law_left", "_law_many"] spDigit) (cL : Cal P w K mg base CX0 3 "_law_lowest" ["_law_top", "_law_bottom"] spLowest)
    (cT : Cal P w K mg base CX0 3 "_law_total" ["_law_parts"] spTotal) : FnOk P w K mg base CX0 4 f fd ["_law_left", "_law_wares_here", "_law_counts_here"] spFreeR := by
  refine F.ok scFreeR (fun vs H Q E h => ?_) (fun cdv A outer s H vs Q E hr h => ?_)
  · obtain ⟨_, _, _, _, _, rfl, _⟩ := h
    rfl
  · obtain ⟨a, ws, c, wr, cs, rfl, lf, hws, w6, hcs, wa, ca, ct, k⟩ := h
    refine ⟨_, (pss_cons (ps_set (i := 3) scFreeR.nd rfl (Or.inl rfl) pe_str)
      (pss_cons (ps_set (i := 4) scFreeR.nd rfl (Or.inr rfl) (pe_lst pa_nil))
      (pss_cons (ps_for PassesOwn.never rfl (pi_rev rfl T.rev' rfl T.range (pa_cons (pe_callB call_len_seq rfl T.len PySem.boot_len (pa_cons (pv 2) pa_nil)) pa_nil)) (pg_name (i := 5) scFreeR.nd rfl (Or.inl rfl))
        (pss_one (ps_if (pt_cmpR op_eq (pe_ix ix_list (pv 2) (pv 5) (fun _ _ => rfl)) pe_int (nomark _))
        (pss_cons (ps_set (i := 6) scFreeR.nd rfl (Or.inl rfl) (pe_ix ix_list (pv 1) (pe_cal cD hr rfl pass0 (pa_cons (pv 0) (pa_cons pe_int pa_nil))) (fun _ _ => rfl)))
      (pss_cons (ps_set (i := 7) scFreeR.nd rfl (Or.inl rfl) (pe_op op_add pe_int (pe_cal cD hr rfl pass0 (pa_cons (pv 0) (pa_cons pe_int pa_nil)))))
      (pss_one (ps_expr (pe_bm PySem.F.plainAttrs_list PySem.F.slot_list_append PySem.F.type_list_append mt_append (pv 4) (pa_cons (pe_tup (pa_cons pe_str (pa_cons (pv 6) (pa_cons (pe_cal cL hr rfl pass0 (pa_cons (pv 7) (pa_cons (pe_op op_add pe_int (pe_cal cD hr rfl pass0 (pa_cons (pv 0) (pa_cons pe_int pa_nil)))) pa_nil))) pa_nil)))) pa_nil))))))
        (pss_cons (ps_set (i := 8) scFreeR.nd rfl (Or.inl rfl) (pe_callTy call_tuple_of rfl T.tup' bt_tuple (pa_cons
          (pe_compC (N' := ["_law_k", "_law_pile"]) (fun σ => [none, some 4].map fun t => t.bind fun j => (σ[j]?).join) rfl rfl (by decide +kernel) (by decide +kernel)
            (hk_of (sc := defScope sFreeR) rfl (by decide +kernel)) (fun _ _ _ => blkN_by (sc := defScope sFreeR) (N := ["_law_left", "_law_wares_here", "_law_counts_here", "_law_letters", "_law_pile", "_law_place", "_law_ware", "_law_top", "_law_parts", "_law_word", "_law_j", "_law_tail"]) [none, some 4] rfl rfl rfl rfl (by decide +kernel))
            (pi_range1 rfl T.range (pa_cons (pe_ix ix_list (pv 2) (pv 5) (fun _ _ => rfl)) pa_nil)) (fun _ _ _ _ _ _ => pg_name (i := 0) ndKP rfl (Or.inl rfl)) (fun _ _ _ _ _ _ => pifs_nil)
            (fun _ _ _ _ _ _ => pe_bm0K (K := K) rfl PySem.F.plainAttrs_list PySem.F.slot_list_pop PySem.F.type_list_pop mt_pop (pv 1))) pa_nil)))
      (pss_cons (ps_set (i := 9) scFreeR.nd rfl (Or.inl rfl) pe_str)
      (pss_cons (ps_for PassesOwn.never rfl (pi_range1 rfl T.range (pa_cons (pe_op op_add pe_int (pe_cal cD hr rfl pass0 (pa_cons (pv 0) (pa_cons pe_int pa_nil)))) pa_nil)) (pg_name (i := 10) scFreeR.nd rfl (Or.inl rfl))
        (pss_one (ps_set (i := 9) scFreeR.nd rfl (Or.inl rfl) (pe_op op_add_str (pv 9) (pe_ix ix_str (pv 3) (pe_cal cD hr rfl pass0 (pa_cons (pv 0) (pa_cons pe_int pa_nil))) (fun _ _ => rfl))))))
      (pss_cons (ps_for PassesOwn.never rfl (pi_str pe_str) (pg_name (i := 11) scFreeR.nd rfl (Or.inl rfl))
        (pss_one (ps_if (pt_cmpR op_in_seq (pv 9) (pv 1) rfl)
        (pss_one (ps_set (i := 9) scFreeR.nd rfl (Or.inl rfl) (pe_op op_add_str pe_str (pv 11))))
        pss_nil)))
      (pss_one (ps_expr (pe_bm PySem.F.plainAttrs_list PySem.F.slot_list_append PySem.F.type_list_append mt_append (pv 4) (pa_cons (pe_tup (pa_cons pe_str (pa_cons (pv 9) (pa_cons (pe_cal cT hr rfl pass0 (pa_cons (pv 8) pa_nil)) (pa_cons (pv 8) pa_nil))))) pa_nil)))))))))))
      (pss_one (ps_ret (pe_ix ix_list (pv 4) (pe_un un_neg pe_int) (fun _ _ => rfl))))))), ?_⟩
    have zL : LET.length ≤ sizeLine := by decide +kernel
    refine ⟨(by show 0 ≤ sizeLine; decide), fun Pl nP => ?_⟩
    have Pa : Pl ≠ a := lf.there nP
    have cP : c ≠ Pl := fun e => by rw [e, nP] at hcs; cases hcs
    refine ⟨_, rfl, c, _, rfl, .inl (SqL.of (by rw [upd_ne cP]; exact hcs)), _, rfl, by omega, ?_, ?_⟩
    · rw [List.length_map]
      have := ct.ln
      omega
    rw [List.length_map, Int.toNat_natCast]
    have cl := ct.ln
    refine for_range3 (fun j σ H' => ∃ (pl : List Pt) (v5 v6 v7 v8 v9 v10 v11 : Option V), σ = [some (.ref a), some (.ref ws), some (.ref c), some (.str LET), some (.ref Pl), v5, v6, v7, v8, v9, v10, v11] ∧ SmB a H H' ∧ Lf H' a ∧ H' Pl = some (.lst (pl.map (·.1))) ∧ Pile H' cs j pl)
      ⟨[], none, none, none, none, none, none, none, rfl, SmB.refl.own nP, lf.own Pa, upd_same, Pile.nil⟩ ?_ ?_
    · rintro j σ H1 hj ⟨pl, v5, v6, v7, v8, v9, v10, v11, rfl, sb, lf1, hP, pi⟩
      obtain ⟨kk, hk⟩ : ∃ kk, cs.length = kk + 1 + j := ⟨cs.length - 1 - j, by omega⟩
      have ek : (cs.length : Int) - 1 + (j : Nat) * -1 = (kk : Int) := by omega
      rw [ek]
      obtain ⟨cnt, hcnt⟩ : ∃ x, cs[kk]? = some x := ⟨_, List.getElem?_eq_getElem (by omega)⟩
      have hat : atI (cs.map V.int) (kk : Int) = some (.int cnt) := atI_nat (by rw [List.getElem?_map, hcnt]; rfl)
      have hc1 := sb _ _ ca hcs
      refine ⟨_, rfl, _, rfl, c, _, (kk : Int), .int cnt, rfl, rfl, SqL.of hc1, hat, rfl, _, rfl, ite2 (fun h0 => ?_) (fun h0 => ?_)⟩
      · have ec : cnt = 0 := by simpa [eqV] using h0
        subst ec
        refine ⟨_, rfl, _, rfl, a, 6, rfl, lf1, by decide, b9, fun d H2 d0 dl s2 lf2 => ?_⟩
        obtain ⟨dn, rfl⟩ := Int.eq_ofNat_of_zero_le d0
        obtain ⟨x, hx⟩ : ∃ x, wr[dn]? = some x := ⟨_, List.getElem?_eq_getElem (by omega)⟩
        have sb2 := sb.trans s2
        refine ⟨ws, _, (dn : Int), .str x, rfl, rfl, SqL.of (sb2 _ _ wa hws), atI_nat (by rw [List.getElem?_map, hx]; rfl), ?_⟩
        refine ⟨_, rfl, a, 1000, rfl, lf2, by decide, b9, fun d2 H3 d20 d2l s3 lf3 => ⟨_, _, rfl, rfl, ?_⟩⟩
        have sb3 := sb2.trans s3
        have hP3 := s3 _ _ Pa (s2 _ _ Pa hP)
        refine ⟨_, rfl, .inl ⟨rfl, _, SqL.of hP3⟩, _, rfl, _, rfl, _, rfl, a, 100, rfl, lf3, by decide, b9, fun d3 H4 d30 d3l s4 lf4 => ⟨_, _, rfl, rfl, ?_⟩⟩
        have sb4 := sb3.trans s4
        have hP4 := s4 _ _ Pa hP3
        refine ⟨_, _, rfl, by omega, by omega, b9 (by omega) (by omega), fun m H5 s5 nm hm => ?_⟩
        have lf5 := lf4.keep s5
        have hP5 := s5 _ _ hP4
        have rm := low_rm (t := 1 + d2) (b := 1 + d3) (by omega) (by omega) (bt_lt 63 (c := 2000) (by omega) (by omega)) (bt_lt 63 (c := 2000) (by omega) (by omega))
        refine ⟨(by show 3 ≤ sizeLine; decide), fun z hz => ?_⟩
        have zP : Pl ≠ z := fun e => by rw [← e, hP5] at hz; cases hz
        have za : z ≠ a := lf5.there hz
        refine ⟨Pl, _, _, rfl, rfl, (by rw [upd_ne zP]; exact hP5), small1000 (by rw [List.length_map]; have := pi.sz; have := len_szs pi.tr; omega), ?_⟩
        have nz : H z = none := sb4.none (sm_none s5 hz) za
        have tk : Tk H1 (upd (upd H5 z (.tup [.str "ware", .str x, .ref m])) Pl (.lst (pl.map (·.1) ++ [.ref z]))) :=
          (sb_tk s2 lf1).trans ((sb_tk s3 lf2).trans ((sb_tk s4 lf3).trans (s5.tk.trans ((Same.upd hz).tk.trans (Tk.lst (by rw [upd_ne zP]; exact hP5))))))
        have hzz : upd (upd H5 z (.tup [.str "ware", .str x, .ref m])) Pl (.lst (pl.map (·.1) ++ [.ref z])) z = some (.tup [.str "ware", .str x, .ref m]) := by rw [upd_ne zP.symm]; exact upd_same
        have tr : Tr (upd (upd H5 z (.tup [.str "ware", .str x, .ref m])) Pl (.lst (pl.map (·.1) ++ [.ref z]))) 1 (.ref z) 1 0 := by
          refine .inl ⟨z, m, x, rfl, hzz, ⟨_, _, ?_, Int.le_trans (by decide) rm.t1, rm.b1, rm.st, rm.sb⟩, rfl, rfl⟩
          have mP : m ≠ Pl := fun e => by rw [e, hP5] at hm; cases hm
          have mz : m ≠ z := fun e => by rw [e, hz] at hm; cases hm
          rw [upd_ne mP, upd_ne mz]
          exact hm
        refine ⟨pl ++ [(.ref z, 1, 0)], _, _, _, _, _, _, _, rfl, ?_, ?_, ?_, (pi.keep tk).ware hk hcnt tr⟩
        · exact ((sb4.trans (SmB.of s5)).own nz).own nP
        · exact (lf5.own za).own Pa
        · rw [List.map_append]
          exact upd_same
      · have ec : cnt ≠ 0 := by simpa [eqV] using h0
        obtain ⟨r, u, rfl, ul, u64⟩ := pi.split ct.ok hk hcnt
        subst ul
        have sz := pi.sz
        rw [szs_append, szs_rev] at sz
        refine ⟨_, rfl, _, rfl, c, _, (kk : Int), .int (u.length : Int), rfl, rfl, SqL.of hc1, hat, _, rfl, by omega, by omega, ?_⟩
        rw [Int.toNat_natCast, ← List.length_map (f := fun x : Pt => x.1) (as := u)]
        refine fun D hD => ?_
        refine comp_pop (K := K) (Pl := Pl) (r := r.map (·.1)) (u := u.map (·.1)) (by rw [hP, List.map_append, List.map_reverse]) hD (by rw [List.length_map]; omega) (fun H2 b2 hP2 hD2 => ?_)
        refine ⟨D, _, rfl, .inl ⟨SqL.of hD2, fun q hq => ?_⟩⟩
        have lf2 : Lf H2 a := by
          obtain ⟨m, e, h0⟩ := lf1
          exact ⟨m, b2 _ _ Pa.symm e, h0⟩
        have sb2 : SmB a H H2 := fun b o n e => b2 b o (fun z => by rw [z, nP] at e; cases e) (sb b o n e)
        have qP : Pl ≠ q := fun e => by rw [← e, hP2] at hq; cases hq
        have qa : q ≠ a := lf2.there hq
        have nq : H q = none := sb2.none hq qa
        have tk2 : Tk H1 (upd H2 q (.tup (u.map (·.1)))) := (Bx.tk b2 hP).trans (Same.upd hq).tk
        have hP3 : upd H2 q (.tup (u.map (·.1))) Pl = some (.lst (r.map (·.1))) := by rw [upd_ne qP]; exact hP2
        have hq3 : upd H2 q (.tup (u.map (·.1))) q = some (.tup (u.map (·.1))) := upd_same
        have lf3 := lf2.own (o := HO.tup (u.map (·.1))) qa
        have sb3 := sb2.own (o := HO.tup (u.map (·.1))) nq
        generalize upd H2 q (.tup (u.map (·.1))) = H3 at tk2 hP3 hq3 lf3 sb3 ⊢
        refine ⟨_, rfl, a, 8, rfl, lf3, by decide, b9, fun d H4 d0 dl s4 lf4 => ⟨_, _, rfl, rfl, _, rfl, by omega, by omega, ?_⟩⟩
        have tk4 := tk2.trans (sb_tk s4 lf3)
        have hP4 := s4 _ _ Pa hP3
        have hq4 := s4 _ _ qa hq3
        have sb4 := sb3.trans s4
        refine for_range (fun i σ H' => ∃ (x : Str) (v10' : Option V), σ = [some (.ref a), some (.ref ws), some (.ref c), some (.str LET), some (.ref Pl), some (.int kk), v6, v7, some (.ref q), some (.str x), v10', v11] ∧ x.length ≤ i ∧ SmB a H H' ∧ Lf H' a ∧ Tk H1 H' ∧ H' Pl = some (.lst (r.map (·.1))) ∧ H' q = some (.tup (u.map (·.1))))
          ⟨"", _, rfl, Nat.le_refl _, sb4, lf4, tk4, hP4, hq4⟩ ?_ ?_
        · rintro i σ H5 hi ⟨x, v10', rfl, xl, sb5, lf5, tk5, hP5, hq5⟩
          refine ⟨_, rfl, _, rfl, _, rfl, a, 26, rfl, lf5, by decide, b9, fun g H6 g0 gl s6 lf6 => ?_⟩
          obtain ⟨gn, rfl⟩ := Int.eq_ofNat_of_zero_le g0
          refine ⟨LET, (gn : Int), 97 + gn, rfl, rfl, zL, atI_nat (at_let (by omega)), _, _, rfl, rfl, sz1000 (by show x.length + 1 ≤ 1000; omega), ?_⟩
          refine ⟨_, _, rfl, ?_, sb5.trans s6, lf6, tk5.trans (sb_tk s6 lf5), s6 _ _ Pa hP5, s6 _ _ qa hq5⟩
          rw [lenA]
          show x.length + 1 ≤ i + 1
          omega
        · rintro σ H5 ⟨x, v10', rfl, xl, sb5, lf5, tk5, hP5, hq5⟩
          have xl' : x.length ≤ 8 := by omega
          refine ⟨"abcdefg", rfl, ?_⟩
          refine for_str (fun i σ H' => ∃ (y : Str) (v11' : Option V), σ = [some (.ref a), some (.ref ws), some (.ref c), some (.str LET), some (.ref Pl), some (.int kk), v6, v7, some (.ref q), some (.str y), v10', v11'] ∧ y.length ≤ 8 ∧ H' = H5) ⟨x, _, rfl, xl', rfl⟩ ?_ ?_
          · rintro i g σ H6 hg ⟨y, v11', rfl, yl, rfl⟩
            refine ⟨_, rfl, _, rfl, ws, _, rfl, .inl (SqL.of (sb5 _ _ wa hws)), rfl, flat_strs wr, _, rfl, ite2 (fun _ => ?_) (fun _ => ?_)⟩
            · refine ⟨_, rfl, _, _, rfl, rfl, (by show 3 + 1 ≤ sizeLine; decide), ⟨_, _, rfl, ?_, rfl⟩⟩
              rw [lenA]
              show 3 + 1 ≤ 8
              decide
            · exact ⟨y, _, rfl, yl, rfl⟩
          · rintro σ H6 ⟨y, v11', rfl, yl, rfl⟩
            have pi5 := pi.keep tk5
            have hu : ∀ e ∈ u, Tr H6 _ e.1 e.2.1 e.2.2 := fun e he => pi5.tr e (by simp [he])
            refine ⟨_, rfl, .inl ⟨rfl, _, SqL.of hP5⟩, _, rfl, _, rfl, q, u, rfl, hq5, ⟨_, hu⟩, by omega, fun m H7 s7 nm am => ?_⟩
            have hP7 := s7 _ _ hP5
            have hq7 := s7 _ _ hq5
            have lf7 := lf5.keep s7
            refine ⟨_, rfl, (by show 4 ≤ sizeLine; decide), fun z hz => ?_⟩
            have zP : Pl ≠ z := fun e => by rw [← e, hP7] at hz; cases hz
            have za : z ≠ a := lf7.there hz
            have nz : H z = none := sb5.none (sm_none s7 hz) za
            have rl : r.length ≤ 100 := by
              have := len_szs (H := H1) (l := r) fun c hc => pi.tr c (by simp [hc])
              omega
            refine ⟨Pl, _, _, rfl, rfl, (by rw [upd_ne zP]; exact hP7), small1000 (by rw [List.length_map]; omega), ?_⟩
            have hPz : upd H7 z (.tup [.str "recipe", .str y, .ref m, .ref q]) Pl = some (.lst (r.map (·.1))) := by rw [upd_ne zP]; exact hP7
            have tk8 : Tk H7 (upd (upd H7 z (.tup [.str "recipe", .str y, .ref m, .ref q])) Pl (.lst (r.map (·.1) ++ [.ref z]))) := (Same.upd hz).tk.trans (Tk.lst hPz)
            have tkA := tk5.trans (s7.tk.trans tk8)
            have hzz : upd (upd H7 z (.tup [.str "recipe", .str y, .ref m, .ref q])) Pl (.lst (r.map (·.1) ++ [.ref z])) z = some (.tup [.str "recipe", .str y, .ref m, .ref q]) := by rw [upd_ne zP.symm]; exact upd_same
            obtain ⟨d', d1, tr⟩ := Tr.recipe hzz (tk8 _ _ hq7) (by omega) u64 (fun e he => (hu e he).keep (s7.tk.trans tk8)) (am.keep tk8)
            refine ⟨r ++ [(.ref z, 1 + szs u, d')], _, _, _, _, _, _, _, rfl, ?_, ?_, ?_, (pi.keep tkA).recipe hk hcnt ec rfl d1 tr⟩
            · exact ((sb5.trans (SmB.of s7)).own nz).own nP
            · exact (lf7.own za).own Pa
            · rw [List.map_append]
              exact upd_same
    · rintro σ H1 ⟨pl, v5, v6, v7, v8, v9, v10, v11, rfl, sb, lf1, hP, pi⟩
      obtain ⟨v, d, tr, s100, d1, hat⟩ := pile_end pi ct
      exact ⟨_, rfl, _, rfl, Pl, _, -1, v.1, rfl, rfl, SqL.of hP, hat, k v.1 v.2.1 d H1 sb tr s100 d1⟩
end
end K43

namespace K43
open PySem PySem.Spec PyProof.Rows L2 GM TM TR
theorem at8 {i : Int} (h0 : 0 ≤ i) (h1 : i < 8) : ∃ g : Nat, atI (cps "abcdefgh") i = some g := by
  obtain ⟨n, rfl⟩ := Int.eq_ofNat_of_zero_le h0
  have l : (cps ("abcdefgh" : Str)).length = 8 := by decide +kernel
  exact ⟨_, atI_nat (List.getElem?_eq_getElem (by omega))⟩
section
variable {P : Program} {w : World} {K : PySem.W.Frag} {mg : Str → Option Value} {base : Heap}
theorem scRoot : FnScope ["_law_script", "_law_wares_here", "_law_counts_here", "_law_pile", "_law_place", "_law_number", "_law_parts"] ["_law_script", "_law_wares_here", "_law_counts_here"] (defScope sRoot) := ⟨rfl, rfl, rfl, by decide +kernel, rfl, by decide +kernel, by decide +kernel⟩
theorem ok_root {f : Addr} {fd : FuncData} (F : Fun K "_law_root" "_law_root" sRoot f fd) (T : Txt mg) (cC : Cal P w K mg base CX0 4 "_law_cell_at" ["_law_script", "_law_k"] (spCell K)) (cM : Cal P w K mg base CX0 4 "_law_mixed" ["_law_cell", "_law_k"] spMixed) (cU : Cal P w K mg base CX0 4 "_law_much" ["_law_number"] spMuch)
    (cF : Cal P w K mg base CX0 4 "_law_free_root" ["_law_left", "_law_wares_here", "_law_counts_here"] spFreeR) (cT : Cal P w K mg base CX0 4 "_law_total" ["_law_parts"] spTotal) : FnOk P w K mg base CX0 5 f fd ["_law_script", "_law_wares_here", "_law_counts_here"] (spRoot K) := by
  refine F.ok scRoot (fun vs H Q E h => ?_) (fun cdv A outer s H vs Q E hr h => ?_)
  · obtain ⟨_, _, _, _, _, _, rfl, _⟩ := h
    rfl
  · obtain ⟨a, ws, c, ns, wr, cs, rfl, ha, hws, w6, hcs, ct, k⟩ := h
    refine ⟨_, (pss_cons (ps_if (pt_cmpR op_eq (pe_op op_mod (pe_cal cC hr rfl pass0 (pa_cons (pv 0) (pa_cons pe_int pa_nil))) pe_int) pe_int (nomark _))
        (pss_one (ps_ret (pe_cal cF hr rfl pass0 (pa_cons (pe_lst (pa_cons (pe_callB call_abs rfl T.abs' bt_abs (pa_cons (pe_cal cC hr rfl pass0 (pa_cons (pv 0) (pa_cons pe_int pa_nil))) pa_nil)) pa_nil)) (pa_cons (pv 1) (pa_cons (pv 2) pa_nil))))))
        pss_nil)
      (pss_cons (ps_set (i := 3) scRoot.nd rfl (Or.inr rfl) (pe_lst pa_nil))
      (pss_cons (ps_for PassesOwn.never rfl (pi_rev rfl T.rev' rfl T.range (pa_cons (pe_callB call_len_seq rfl T.len PySem.boot_len (pa_cons (pv 2) pa_nil)) pa_nil)) (pg_name (i := 4) scRoot.nd rfl (Or.inl rfl))
        (pss_cons (ps_set (i := 5) scRoot.nd rfl (Or.inl rfl) (pe_cal cM hr rfl pass0 (pa_cons (pe_cal cC hr rfl pass0 (pa_cons (pv 0) (pa_cons (pe_op op_mod (pv 4) pe_int) pa_nil))) (pa_cons (pv 4) pa_nil))))
      (pss_one (ps_if (pt_cmpR op_eq (pe_ix ix_list (pv 2) (pv 4) (fun _ _ => rfl)) pe_int (nomark _))
        (pss_one (ps_expr (pe_bm PySem.F.plainAttrs_list PySem.F.slot_list_append PySem.F.type_list_append mt_append (pv 3) (pa_cons (pe_tup (pa_cons pe_str (pa_cons (pe_ix ix_list (pv 1) (pe_op op_mod (pv 5) pe_int) (fun _ _ => rfl)) (pa_cons (pe_cal cU hr rfl pass0 (pa_cons (pe_op op_fdivB (pv 5) pe_int) pa_nil)) pa_nil)))) pa_nil))))
        (pss_cons (ps_set (i := 6) scRoot.nd rfl (Or.inl rfl) (pe_callTy call_tuple_of rfl T.tup' bt_tuple (pa_cons
          (pe_compC (N' := ["_law_k", "_law_pile"]) (fun σ => [none, some 3].map fun t => t.bind fun j => (σ[j]?).join) rfl rfl (by decide +kernel) (by decide +kernel)
            (hk_of (sc := defScope sRoot) rfl (by decide +kernel)) (fun _ _ _ => blkN_by (sc := defScope sRoot) (N := ["_law_script", "_law_wares_here", "_law_counts_here", "_law_pile", "_law_place", "_law_number", "_law_parts"]) [none, some 3] rfl rfl rfl rfl (by decide +kernel))
            (pi_range1 rfl T.range (pa_cons (pe_ix ix_list (pv 2) (pv 4) (fun _ _ => rfl)) pa_nil)) (fun _ _ _ _ _ _ => pg_name (i := 0) ndKP rfl (Or.inl rfl)) (fun _ _ _ _ _ _ => pifs_nil)
            (fun _ _ _ _ _ _ => pe_bm0K (K := K) rfl PySem.F.plainAttrs_list PySem.F.slot_list_pop PySem.F.type_list_pop mt_pop (pv 1))) pa_nil)))
      (pss_one (ps_expr (pe_bm PySem.F.plainAttrs_list PySem.F.slot_list_append PySem.F.type_list_append mt_append (pv 3) (pa_cons (pe_tup (pa_cons pe_str (pa_cons (pe_op op_add_str pe_str (pe_ix ix_str pe_str (pe_op op_mod (pv 5) pe_int) (fun _ _ => rfl))) (pa_cons (pe_cal cT hr rfl pass0 (pa_cons (pv 6) pa_nil)) (pa_cons (pv 6) pa_nil))))) pa_nil)))))))))
      (pss_one (ps_ret (pe_ix ix_list (pv 3) (pe_un un_neg pe_int) (fun _ _ => rfl))))))), ?_⟩
    refine ⟨_, rfl, a, ns, 0, rfl, ha, by decide, fun c0 => ⟨_, _, rfl, rfl, (by show (0 : Int) < 2; decide), rfl, _, rfl, ite2 (fun _ => ?_) (fun _ => ?_)⟩⟩
    · refine ⟨_, rfl, a, ns, 4, rfl, ha, by decide, fun c4 => ⟨c4, rfl, (by show 1 ≤ sizeLine; decide), fun z hz => ?_⟩⟩
      have wz : ws ≠ z := fun e => by rw [e, hz] at hws; cases hws
      have cz : c ≠ z := fun e => by rw [e, hz] at hcs; cases hcs
      refine ⟨_, rfl, _, rfl, z, ws, c, wr, cs, rfl, ⟨_, upd_same, by split <;> omega⟩, by rw [upd_ne wz]; exact hws, w6, by rw [upd_ne cz]; exact hcs, wz, cz, ct, fun v n d H' sb tr n100 d1 => ?_⟩
      exact k v n d H' (fun b o e => sb b o (ne_of_none e hz) (by rw [upd_ne (ne_of_none e hz)]; exact e)) tr n100 d1
    refine ⟨(by show 0 ≤ sizeLine; decide), fun Pl nP => ?_⟩
    have cP : c ≠ Pl := fun e => by rw [e, nP] at hcs; cases hcs
    refine ⟨_, rfl, c, _, rfl, .inl (SqL.of (by rw [upd_ne cP]; exact hcs)), _, rfl, by omega, ?_, ?_⟩
    · rw [List.length_map]
      have := ct.ln
      omega
    rw [List.length_map, Int.toNat_natCast]
    have cl := ct.ln
    refine for_range3 (fun j σ H' => ∃ (pl : List Pt) (v4 v5 v6 : Option V), σ = [some (.ref a), some (.ref ws), some (.ref c), some (.ref Pl), v4, v5, v6] ∧ Same H H' ∧ H' Pl = some (.lst (pl.map (·.1))) ∧ Pile H' cs j pl)
      ⟨[], none, none, none, rfl, Same.upd nP, upd_same, Pile.nil⟩ ?_ ?_
    · rintro j σ H1 hj ⟨pl, v4, v5, v6, rfl, sm, hP, pi⟩
      obtain ⟨kk, hk⟩ : ∃ kk, cs.length = kk + 1 + j := ⟨cs.length - 1 - j, by omega⟩
      have ek : (cs.length : Int) - 1 + (j : Nat) * -1 = (kk : Int) := by omega
      rw [ek]
      obtain ⟨cnt, hcnt⟩ : ∃ x, cs[kk]? = some x := ⟨_, List.getElem?_eq_getElem (by omega)⟩
      have hat : atI (cs.map V.int) (kk : Int) = some (.int cnt) := atI_nat (by rw [List.getElem?_map, hcnt]; rfl)
      have hc1 := sm _ _ hcs
      have e61 := emod_in (kk : Int) (m := 61) (by decide)
      refine ⟨_, rfl, _, rfl, _, _, rfl, rfl, (by show (0 : Int) < 61; decide), a, ns, _, rfl, sm.seq ha, e61.1, fun ce => ⟨_, rfl, ce, _, rfl, by omega, by omega, fun u u0 ul => ?_⟩⟩
      refine ⟨_, rfl, _, rfl, c, _, (kk : Int), .int cnt, rfl, rfl, SqL.of hc1, hat, rfl, _, rfl, ite2 (fun h0 => ?_) (fun h0 => ?_)⟩
      · have ec : cnt = 0 := by simpa [eqV] using h0
        subst ec
        have e6 := emod_in u (m := 6) (by decide)
        obtain ⟨dn, hdn⟩ := Int.eq_ofNat_of_zero_le e6.1
        obtain ⟨x, hx⟩ : ∃ x, wr[dn]? = some x := ⟨_, List.getElem?_eq_getElem (by omega)⟩
        refine ⟨_, rfl, .inl ⟨rfl, _, SqL.of hP⟩, _, rfl, _, rfl, _, _, rfl, rfl, (by show (0 : Int) < 6; decide), ws, _, _, .str x, rfl, rfl, SqL.of (sm _ _ hws), (by rw [hdn]; exact atI_nat (by rw [List.getElem?_map, hx]; rfl)), _, rfl, _, _, rfl, rfl, ⟨by decide, b9⟩, ?_⟩
        refine ⟨_, rfl, Int.ediv_nonneg u0 (by decide), Int.lt_of_le_of_lt (Int.ediv_le_self _ u0) ul, fun t b m H5 rm s5 nm hm => ?_⟩
        have hP5 := s5 _ _ hP
        refine ⟨(by show 3 ≤ sizeLine; decide), fun z hz => ?_⟩
        have zP : Pl ≠ z := fun e => by rw [← e, hP5] at hz; cases hz
        refine ⟨Pl, _, _, rfl, rfl, (by rw [upd_ne zP]; exact hP5), small1000 (by rw [List.length_map]; have := pi.sz; have := len_szs pi.tr; omega), ?_⟩
        have nz : H z = none := sm_none (sm.trans s5) hz
        have tk : Tk H1 (upd (upd H5 z (.tup [.str "ware", .str x, .ref m])) Pl (.lst (pl.map (·.1) ++ [.ref z]))) :=
          s5.tk.trans ((Same.upd hz).tk.trans (Tk.lst (by rw [upd_ne zP]; exact hP5)))
        have hzz : upd (upd H5 z (.tup [.str "ware", .str x, .ref m])) Pl (.lst (pl.map (·.1) ++ [.ref z])) z = some (.tup [.str "ware", .str x, .ref m]) := by rw [upd_ne zP.symm]; exact upd_same
        have tr : Tr (upd (upd H5 z (.tup [.str "ware", .str x, .ref m])) Pl (.lst (pl.map (·.1) ++ [.ref z]))) 1 (.ref z) 1 0 := by
          refine .inl ⟨z, m, x, rfl, hzz, ⟨_, _, ?_, Int.le_trans (by decide) rm.t1, rm.b1, rm.st, rm.sb⟩, rfl, rfl⟩
          have mP : m ≠ Pl := fun e => by rw [e, hP5] at hm; cases hm
          have mz : m ≠ z := fun e => by rw [e, hz] at hm; cases hm
          rw [upd_ne mP, upd_ne mz]
          exact hm
        refine ⟨pl ++ [(.ref z, 1, 0)], _, _, _, rfl, sm_own (sm_own (sm.trans s5) nz) nP, ?_, (pi.keep tk).ware hk hcnt tr⟩
        rw [List.map_append]
        exact upd_same
      · have ec : cnt ≠ 0 := by simpa [eqV] using h0
        obtain ⟨r, t, rfl, tl, t64⟩ := pi.split ct.ok hk hcnt
        subst tl
        have sz := pi.sz
        rw [szs_append, szs_rev] at sz
        refine ⟨_, rfl, _, rfl, c, _, (kk : Int), .int (t.length : Int), rfl, rfl, SqL.of hc1, hat, _, rfl, by omega, by omega, ?_⟩
        rw [Int.toNat_natCast, ← List.length_map (f := fun x : Pt => x.1) (as := t)]
        refine fun D hD => ?_
        refine comp_pop (K := K) (Pl := Pl) (r := r.map (·.1)) (u := t.map (·.1)) (by rw [hP, List.map_append, List.map_reverse]) hD (by rw [List.length_map]; omega) (fun H2 b2 hP2 hD2 => ?_)
        refine ⟨D, _, rfl, .inl ⟨SqL.of hD2, fun q hq => ?_⟩⟩
        have sm2 : Same H H2 := fun b o e => b2 b o (fun z => by rw [z, nP] at e; cases e) (sm b o e)
        have qP : Pl ≠ q := fun e => by rw [← e, hP2] at hq; cases hq
        have nq : H q = none := sm_none sm2 hq
        have tk2 : Tk H1 (upd H2 q (.tup (t.map (·.1)))) := (Bx.tk b2 hP).trans (Same.upd hq).tk
        have hP3 : upd H2 q (.tup (t.map (·.1))) Pl = some (.lst (r.map (·.1))) := by rw [upd_ne qP]; exact hP2
        have hq3 : upd H2 q (.tup (t.map (·.1))) q = some (.tup (t.map (·.1))) := upd_same
        have sm3 := sm_own (o := HO.tup (t.map (·.1))) sm2 nq
        generalize upd H2 q (.tup (t.map (·.1))) = H3 at tk2 hP3 hq3 sm3 ⊢
        have e8 := emod_in u (m := 8) (by decide)
        obtain ⟨g, hg⟩ := at8 e8.1 e8.2
        have pi3 := pi.keep tk2
        have hu : ∀ e ∈ t, Tr H3 _ e.1 e.2.1 e.2.2 := fun e he => pi3.tr e (by simp [he])
        refine ⟨_, rfl, .inl ⟨rfl, _, SqL.of hP3⟩, _, rfl, _, _, rfl, rfl, (by show (0 : Int) < 8; decide), "abcdefgh", _, g, rfl, rfl, (by decide +kernel), hg, _, _, rfl, rfl, (by show 3 + 1 ≤ sizeLine; decide), _, rfl, q, t, rfl, hq3, ⟨_, hu⟩, by omega, fun m H7 s7 nm am => ?_⟩
        have hP7 := s7 _ _ hP3
        have hq7 := s7 _ _ hq3
        refine ⟨_, rfl, (by show 4 ≤ sizeLine; decide), fun z hz => ?_⟩
        have zP : Pl ≠ z := fun e => by rw [← e, hP7] at hz; cases hz
        have nz : H z = none := sm_none (sm3.trans s7) hz
        have rl := len_szs (H := H1) (l := r) fun c hc => pi.tr c (by simp [hc])
        refine ⟨Pl, _, _, rfl, rfl, (by rw [upd_ne zP]; exact hP7), small1000 (by rw [List.length_map]; omega), ?_⟩
        generalize (("mix" : Str) ++ (⟨#[g]⟩ : Str)) = y
        have hPz : upd H7 z (.tup [.str "recipe", .str y, .ref m, .ref q]) Pl = some (.lst (r.map (·.1))) := by rw [upd_ne zP]; exact hP7
        have tk8 : Tk H7 (upd (upd H7 z (.tup [.str "recipe", .str y, .ref m, .ref q])) Pl (.lst (r.map (·.1) ++ [.ref z]))) := (Same.upd hz).tk.trans (Tk.lst hPz)
        have tkA := tk2.trans (s7.tk.trans tk8)
        have hzz : upd (upd H7 z (.tup [.str "recipe", .str y, .ref m, .ref q])) Pl (.lst (r.map (·.1) ++ [.ref z])) z = some (.tup [.str "recipe", .str y, .ref m, .ref q]) := by rw [upd_ne zP.symm]; exact upd_same
        obtain ⟨d', d1, tr⟩ := Tr.recipe hzz (tk8 _ _ hq7) (by omega) t64 (fun e he => (hu e he).keep (s7.tk.trans tk8)) (am.keep tk8)
        refine ⟨r ++ [(.ref z, 1 + szs t, d')], _, _, _, rfl, sm_own (sm_own (sm3.trans s7) nz) nP, ?_, (pi.keep tkA).recipe hk hcnt ec rfl d1 tr⟩
        rw [List.map_append]
        exact upd_same
    · rintro σ H1 ⟨pl, v4, v5, v6, rfl, sm, hP, pi⟩
      obtain ⟨v, d, tr, s100, d1, hat⟩ := pile_end pi ct
      exact ⟨_, rfl, _, rfl, Pl, _, -1, v.1, rfl, rfl, SqL.of hP, hat, k v.1 v.2.1 d H1 sm tr s100 d1⟩
end
end K43

namespace HT
open PySem PySem.Spec PyProof.Rows
section
variable {prog : Program} {w : World} {A : Around} {E : Value → Shared → Prop} {s : Shared}
end
end HT
namespace L2
open PySem PySem.Spec PyProof.Rows
section
variable {X : Cx}
/-- t * k of a tuple that is not empty, k from 1 on: t * 1 is t itself -/
def rRepTA (K : PySem.W.Frag) : R2 := fun x y H Q => ∃ a k xs, x = .ref a ∧ y = .int k ∧ SqT K H a xs ∧ xs ≠ [] ∧ 1 ≤ k ∧ k ≤ 1000 ∧ xs.length ≤ 1000 ∧ (k = 1 → Q (.ref a) H) ∧ (2 ≤ k → ∀ p, H p = none → Q (.ref p) (upd H p (.tup (List.replicate k.toNat xs).flatten)))
/-- t + u, u not empty and laid here: the heap grows by the new tuple, or is as it was -/
def rCatTB (K : PySem.W.Frag) : R2 := fun x y H Q => ∃ a b xs ys, x = .ref a ∧ y = .ref b ∧ SqT K H a xs ∧ H b = some (.tup ys) ∧ ys ≠ [] ∧ xs.length + ys.length ≤ sizeLine ∧ ∀ p H', Same H H' → H' p = some (.tup (xs ++ ys)) → Q (.ref p) H'
theorem op_catTB : OpR X (binaryOp .Add) (rCatTB X.K) := by
  intro pins s σ H x y v u Q I rx ry h
  obtain ⟨a, b, xs, ys, rfl, rfl, ha, hb, hy, hz, q⟩ := h
  refine op_catTA pins s σ H _ _ v u Q I rx ry ?_
  by_cases e : xs = []
  · subst e
    exact .inl ⟨a, b, ys, rfl, rfl, ha, SqT.of hb, q b H (Same.refl _) (by rw [List.nil_append]; exact hb)⟩
  · exact .inr ⟨a, b, xs, ys, rfl, rfl, ha, SqT.of hb, e, hz, fun z => absurd z hy, fun _ p hp => q p _ (Same.upd hp) upd_same⟩
end
end L2

namespace PySem.SeqAt
open PySem MeetsSeq
end PySem.SeqAt
namespace HT
open PySem PySem.Spec PyProof.Rows
section
variable {prog : Program} {w : World} {A : Around} {E : Value → Shared → Prop} {s : Shared}
theorem getItem_tuple_whole {t sl : Addr} {items : Array Value} {vl vu : Value} {lo hi : Option Int} {Q : Value → Shared → Prop} (ht : IsTup s.heap t items) (hs : s.heap.IsSliceOf sl vl vu .none) (pl : IsPart vl lo) (pu : IsPart vu hi)
    (hw : sIx items.size 0 lo = 0 ∧ sIx items.size items.size hi = items.size) (h : Q (.ref t) s) : wpAny (model prog w) A (getItem (.ref t) (.ref sl)) Q E s := by
  obtain ⟨os, hos, hcs, hds⟩ := id hs
  have hTs : s.TypeIs (.ref sl) "slice" := ⟨os, hos, hcs⟩
  unfold getItem
  try with_reducible refine wpAny_holding ?_
  first | refine wpAny_bind (wpAny_pure ?_) | skip
  refine wpAny_bind (wpAny_sequenceKey ht.typeIs (by decide) ?_)
  refine wpAny_bind (wpAny_callSpecial?_slot (name := Str.ofString "__getitem__") ht.typeIs PyProof.Rows.slot_tuple_getitem
    (wpAny_call_entry PyProof.Rows.slot_tuple_getitem ht.typeIs entry_tuple_getitem ?_ (args_tuple_getitem _ _)))
  show wpAny _ _ (Builtin.Tuple.tupleItemsOf (.ref t) >>= _) _ _ s
  refine wpAny_bind (tupleItemsOf_ ht ?_)
  refine wpAny_bind (wpAny_typeOf hTs ?_)
  rw [if_pos (by decide)]
  refine wpAny_bind (sliceApplied_gen hs pl pu ?_)
  rw [hw.1, hw.2]
  have hyes : (((0 : Nat) : Int) == 0 && (1 : Int) == 1 && (items.size - 0) == items.size) = true := by simp
  show wpAny _ _ (if (((0 : Nat) : Int) == 0 && (1 : Int) == 1 && (items.size - 0) == items.size) = true then _ else _) _ _ s
  rw [if_pos hyes]
  refine wpAny_bind (m := Builtin.Tuple.tupleIsExact (.ref t)) ?_
  unfold Builtin.Tuple.tupleIsExact
  refine wpAny_bind (wpAny_typeOf ht.typeIs (wpAny_pure ?_))
  rw [if_pos (by decide)]
  exact wpAny_bind (wpAny_rule (wpAny_pure ⟨_, rfl, wpAny_pure h⟩))
end
end HT
namespace L2
open PySem PySem.Spec PyProof.Rows
/-- xs.index(y, i) -/
def rIndexF : V → List V → Hp → VK → Prop := fun x vs H Q => ∃ l xs y, ∃ i j : Nat, ∃ z, x = .ref l ∧ vs = [y, .int (i : Int)] ∧ H l = some (.lst xs) ∧ flatV y = true ∧ xs.all flatV = true ∧ i ≤ j ∧ xs[j]? = some z ∧ eqV z y = true ∧
  (∀ m z, i ≤ m → m < j → xs[m]? = some z → eqV z y = false) ∧ Q (.int (j : Int)) H
section
variable {X : Cx}
/-- t[lo:hi] whatever it is: what comes lies there, all else has stayed -/
def rSlTA (K : PySem.W.Frag) : V → Option Int → Option Int → Hp → VK → Prop := fun x lo hi H Q => ∃ a xs, x = .ref a ∧ H a = some (.tup xs) ∧ ∀ p H', Same H H' → H' p = some (.tup (cutV xs lo hi)) → Q (.ref p) H'
theorem sl_tupA : SlR X (rSlTA X.K) := by
  intro pins s σ H x v vl vu lo hi sl Q I rx hs pl pu h
  obtain ⟨a, xs, rfl, hx, q⟩ := h
  by_cases hw : HT.sIx xs.length 0 lo = 0 ∧ HT.sIx xs.length xs.length hi = xs.length
  · cases rx
    obtain ⟨its, r, ht, hz⟩ := I.tuple (SqT.of hx)
    have hlen : its.toArray.size = xs.length := by rw [List.size_toArray]; exact r.length.symm
    refine ⟨"tuple", _, PyProof.Rows.slot_tuple_getitem.lookup, ht.typeIs, ?_⟩
    refine HT.getItem_tuple_whole ht hs pl pu (by rw [hlen]; exact hw) ⟨.ref a, H, I, rfl, q a H (Same.refl _) ?_⟩
    unfold cutV
    rw [hw.1, hw.2, List.drop_zero, Nat.sub_zero, List.take_length]
    exact hx
  · exact sl_tup pins s σ H _ v vl vu lo hi sl Q I rx hs pl pu ⟨a, xs, rfl, SqT.of hx, hw, fun p hp => q p _ (Same.upd hp) upd_same⟩
end
end L2

namespace TR
open PySem PySem.Spec PyProof.Rows L2 GM
/-! ### papers of needs -/
def Pp (H : Hp) (root : V) : Nat → V → List Nat → Prop
  | 0, _, _ => False
  | h + 1, w, un => ∃ (p pa q m r : Addr) (y : Str) (ks : List Nat) (x : V), w = .ref p ∧ H p = some (.tup [.ref pa, x]) ∧ H pa = some (.tup (pth ks)) ∧ (∃ t, ks = un ++ t) ∧ AtP H root ks (.ref q) ∧ H q = some (.tup [.str "recipe", .str y, .ref m, .ref r]) ∧ ks.length ≤ 100 ∧
    ((h = 0 ∧ x = .non) ∨ (1 ≤ h ∧ ∃ (t : Addr) (w1 w2 : V) (i j : Nat), x = .ref t ∧ H t = some (.tup [w1, w2]) ∧ i ≠ j ∧ Pp H root h w1 (ks ++ [i]) ∧ Pp H root h w2 (ks ++ [j])))
theorem two_ix {x : Int} : ∀ {l : List Int}, 2 ≤ l.count x → ∃ i j : Nat, i < j ∧ l[i]? = some x ∧ l[j]? = some x
  | [], h => by simp at h
  | a :: r, h => by
    by_cases e : a = x
    · subst e
      rw [List.count_cons_self] at h
      have m : a ∈ r := List.count_pos_iff.mp (by omega)
      obtain ⟨j, hj, e⟩ := List.mem_iff_getElem.mp m
      exact ⟨0, j + 1, by omega, rfl, by rw [List.getElem?_cons_succ, List.getElem?_eq_getElem hj, e]⟩
    · rw [List.count_cons_of_ne e] at h
      obtain ⟨i, j, h1, h2, h3⟩ := two_ix h
      exact ⟨i + 1, j + 1, by omega, by rw [List.getElem?_cons_succ]; exact h2, by rw [List.getElem?_cons_succ]; exact h3⟩
theorem Nd.two {ds : List Int} {d : Int} (h : Nd ds d) (d2 : 2 ≤ d) (hn : d ∉ ds) : ∃ i j : Nat, i < j ∧ ds[i]? = some (d - 1) ∧ ds[j]? = some (d - 1) := by
  obtain ⟨f, s, ⟨r, p, sf, _⟩, e⟩ := h
  have mf : f ∈ ds ++ [0, 0] := p.mem_iff.mpr (List.mem_cons_self ..)
  have fd : f ≠ d := fun z => by
    rcases List.mem_append.mp mf with h | h
    · exact hn (z ▸ h)
    · have : f = 0 := by simpa using h
      omega
  have e1 : f = d - 1 := by omega
  have e2 : s = d - 1 := by omega
  have c : (ds ++ [0, 0]).count (d - 1) ≥ 2 := by
    rw [p.count_eq, e1, e2, List.count_cons_self, List.count_cons_self]
    omega
  rw [List.count_append] at c
  have z : List.count (d - 1) [(0 : Int), 0] = 0 := List.count_eq_zero.mpr (by simp; omega)
  exact two_ix (by omega)
abbrev ksI (ks : List Nat) : List Int := ks.map fun (k : Nat) => (k : Int)
theorem pth_ints (ks : List Nat) : pth ks = (ksI ks).map V.int := by rw [List.map_map]; rfl
theorem pth_snoc (ks : List Nat) (k : Nat) : pth (ks ++ [k]) = pth ks ++ [V.int (k : Int)] := List.map_append
end TR

namespace K43
open PySem PySem.Spec PyProof.Rows L2 GM TM TR
def spWhole : Sp := fun vs H Q _ => ∃ n : Int, vs = [.int n] ∧ Q (.bl true) H
def spAt : Sp := fun vs H Q _ => ∃ (v u : V) (pa : Addr) (ks : List Nat), vs = [v, .ref pa] ∧ H pa = some (.tup (pth ks)) ∧ AtP H v ks u ∧ Q u H
section
variable {P : Program} {w : World} {K : PySem.W.Frag} {mg : Str → Option Value} {base : Heap}
theorem scWhole : FnScope ["_law_found"] ["_law_found"] (defScope sWhole) := ⟨rfl, rfl, rfl, by decide +kernel, rfl, by decide +kernel, by decide +kernel⟩
theorem ok_whole {f : Addr} {fd : FuncData} (F : Fun K "_law_whole" "_law_whole" sWhole f fd) (T : Txt mg) : FnOk P w K mg base CX0 1 f fd ["_law_found"] spWhole := by
  refine F.ok scWhole (fun vs H Q E h => ?_) (fun cdv A outer s H vs Q E hr h => ?_)
  · obtain ⟨_, rfl, _⟩ := h
    rfl
  · obtain ⟨n, rfl, q⟩ := h
    refine ⟨_, pss_one (ps_ret (pe_and (pe_callB call_isi rfl T.isi boot_isinstance (pa_cons (pv 0) (pa_cons (pe_bltn (v := .ty "int") rfl T.int' bt_int rfl) pa_nil)))
      (pe_one (pe_not (pe_callB call_isi rfl T.isi boot_isinstance (pa_cons (pv 0) (pa_cons (pe_bltn (v := .ty "bool") rfl T.bool' bt_bool rfl) pa_nil))))))), ?_⟩
    exact ⟨_, rfl, .int n, "int", true, rfl, .int_int, _, rfl, iteT ⟨_, rfl, .int n, "bool", false, rfl, .int_bool, _, rfl, q⟩⟩
theorem scAt : FnScope ["_law_root_here", "_law_path", "_law_part", "_law_place"] ["_law_root_here", "_law_path"] (defScope sAt) := ⟨rfl, rfl, rfl, by decide +kernel, rfl, by decide +kernel, by decide +kernel⟩
theorem ok_at {f : Addr} {fd : FuncData} (F : Fun K "_law_at" "_law_at" sAt f fd) (T : Txt mg) (cW : Cal P w K mg base CX0 1 "_law_whole" ["_law_found"] spWhole) : FnOk P w K mg base CX0 2 f fd ["_law_root_here", "_law_path"] spAt := by
  refine F.ok scAt (fun vs H Q E h => ?_) (fun cdv A outer s H vs Q E hr h => ?_)
  · obtain ⟨_, _, _, _, rfl, _⟩ := h
    rfl
  · obtain ⟨v, u, pa, ks, rfl, hp, ap, k⟩ := h
    refine ⟨_, (pss_cons (ps_if (pt_not (pt_val (pe_callB call_isi rfl T.isi boot_isinstance (pa_cons (pv 1) (pa_cons (pe_bltn (v := .ty "tuple") rfl T.tup' bt_tuple rfl) pa_nil)))))
        (pss_one (ps_ret pe_non))
        pss_nil)
      (pss_cons (ps_set (i := 2) scAt.nd rfl (Or.inl rfl) (pv 0))
      (pss_cons (ps_for PassesOwn.never rfl (pi_tup (pv 1)) (pg_name (i := 3) scAt.nd rfl (Or.inl rfl))
        (pss_cons (ps_if (PW.pt (pw_or (pt_cmpR op_ne (pit 2 0) pe_str (nomark _)) (pw_or (pt_not (pt_val (pe_cal cW hr rfl pass0 (pa_cons (pv 3) pa_nil)))) (pw_or (pt_cmpR op_lt (pv 3) pe_int (nomark _)) (pw_or1 (pt_cmpR op_ge (pv 3) (pe_callB call_len_seq rfl T.len PySem.boot_len (pa_cons (pit 2 3) pa_nil)) (nomark _)))))))
        (pss_one (ps_ret pe_non))
        pss_nil)
      (pss_one (ps_set (i := 2) scAt.nd rfl (Or.inl rfl) (pe_ix ix_tup (pit 2 3) (pv 3) (fun _ _ => rfl))))))
      (pss_one (ps_ret (pv 2)))))), ?_⟩
    refine ⟨_, rfl, _, "tuple", true, rfl, .tup_tuple (SqT.of hp), _, rfl, iteF ?_⟩
    refine ⟨_, rfl, _, rfl, pa, rfl, ⟨_, SqT.of hp⟩, ?_⟩
    refine for_tup (fun i σ H' => ∃ (c : V) (v3 : Option V), σ = [some v, some (.ref pa), some c, v3] ∧ H' = H ∧ AtP H c (ks.drop i) u) ⟨v, none, rfl, rfl, ap⟩ (fun i σ H' _ ⟨_, _, _, e, _⟩ => e ▸ SqT.of hp) ?_ ?_
    · rintro i x σ H1 hx ⟨c, v3, rfl, rfl, ac⟩
      rw [List.getElem?_map] at hx
      cases e : ks[i]? with
      | none => rw [e] at hx; cases hx
      | some kk =>
        rw [e] at hx
        cases hx
        obtain ⟨hl, e'⟩ := List.getElem?_eq_some_iff.mp e
        rw [List.drop_eq_getElem_cons hl, e'] at ac
        obtain ⟨p, m, q, y, vs, d, rfl, hp', hq, hd, ad⟩ := ac
        have kl : kk < vs.length := (List.getElem?_eq_some_iff.mp hd).1
        refine ⟨p, _, _, rfl, SqT.of hp', rfl, rfl, _, rfl, iteF ⟨_, rfl, (kk : Int), rfl, _, rfl, iteF ⟨_, rfl, _, _, rfl, rfl, _, rfl, ?_⟩⟩⟩
        have e1 : decide ((kk : Int) < 0) = false := decide_eq_false (by omega)
        rw [e1]
        refine iteF ⟨_, rfl, p, _, _, rfl, SqT.of hp', rfl, q, _, rfl, .inr (SqT.of hq), _, _, rfl, rfl, _, rfl, ?_⟩
        have e2 : decide ((kk : Int) ≥ ((vs.length : Nat) : Int)) = false := decide_eq_false (by omega)
        rw [e2]
        refine iteF ?_
        exact ⟨p, _, _, rfl, SqT.of hp', rfl, _, rfl, q, vs, (kk : Int), d, rfl, rfl, SqT.of hq, atI_nat hd, d, _, rfl, rfl, ad⟩
    · rintro σ H1 ⟨c, v3, rfl, rfl, ac⟩
      rw [List.length_map, List.drop_length] at ac
      have e : c = u := ac
      subst e
      exact ⟨_, rfl, k⟩
end
end K43

namespace HT
open PySem PySem.Spec PyProof.Rows
section
variable {prog : Program} {w : World} {K : Type} [DecidableEq K] {knd : HeapKind prog w K} {A : Around} {E : Value → Shared → Prop} {s : Shared}
def withoutH (xs : List (K × Addr × Value)) (k : K) : List (K × Addr × Value) := xs.filter fun x => decide (x.1 ≠ k)
theorem get_of_atKey {xs : List (K × Addr × Value)} {k : K} {p : Addr × Value} (h : atKey xs k = some p) : ∃ j : Nat, xs[j]? = some (k, p) := by
  unfold atKey at h
  cases e : xs.find? fun x => decide (x.1 = k) with
  | none => rw [e] at h; cases h
  | some y =>
    rw [e] at h
    have h' : y.2 = p := by simpa using h
    have hy : y.1 = k := by simpa using List.find?_some e
    obtain ⟨j, hj⟩ := List.mem_iff_getElem?.mp (List.mem_of_find?_eq_some e)
    exact ⟨j, by rw [hj, ← hy, ← h']⟩
theorem erase_withoutH {xs : List (K × Addr × Value)} : ∀ {j : Nat} {k : K} {p : Addr × Value}, (xs.map (·.1)).Nodup → xs[j]? = some (k, p) → xs.eraseIdx j = withoutH xs k := by
  induction xs with
  | nil => intro j k p _ h; simp at h
  | cons x r ih =>
    intro j k p hn hj
    rw [List.map_cons, List.nodup_cons] at hn
    cases j with
    | zero =>
      simp at hj
      subst hj
      show r = withoutH ((k, p) :: r) k
      unfold withoutH
      rw [List.filter_cons, if_neg (by simp)]
      symm
      rw [List.filter_eq_self]
      intro y hy
      rw [decide_eq_true_eq]
      intro e
      exact hn.1 (List.mem_map.mpr ⟨y, hy, e⟩)
    | succ j =>
      rw [List.getElem?_cons_succ] at hj
      have hm : k ∈ r.map (·.1) := List.mem_map.mpr ⟨(k, p), List.mem_of_getElem? hj, rfl⟩
      have ne : x.1 ≠ k := fun e => hn.1 (e ▸ hm)
      rw [List.eraseIdx_cons_succ, ih hn.2 hj]
      unfold withoutH
      rw [List.filter_cons, if_pos (by simpa using ne)]
theorem takeOutH {d a : Addr} {xs : List (K × Addr × Value)} {k : K} {p : Addr × Value} {Q : Option DictEntry → Shared → Prop} (hu : knd.room A) (hkey : knd.is s.heap k a) (hm : s.heap.DictOfH knd d xs) (hp : atKey xs k = some p) (hsz : xs.length ≤ sizeLine)
    (h : ∀ e h', e.val = p.2 → h'.DictOfH knd d (withoutH xs k) → Heap.SameBut d s.heap h' → Q (some e) { s with heap := h', toks := s.toks + knd.draws k }) :
    wpAny (model prog w) A (Builtin.Dict.takeOut d (.ref a)) Q E s := by
  obtain ⟨o, es, ep, ho, hc, hd, he, his, hn⟩ := hm
  unfold Builtin.Dict.takeOut
  try with_reducible refine wpAny_holding ?_
  refine wpAny_bind (knd.pyHash hu hkey ?_)
  refine wpAny_bind (wpAny_dictFind_heap (s := { s with toks := s.toks + knd.draws k }) hu hkey ho hd he his hn (fun hno => ?_) fun j q hj => ?_)
  · rw [atKey_none_of_get hno] at hp
    cases hp
  · rw [atKey_of_get hn hj] at hp
    cases hp
    refine wpAny_bind (wpAny_dictEntries (s := { s with toks := s.toks + knd.draws k }) ho hd ?_)
    rw [entry_at he j, hj]
    refine wpAny_bind (wpAny_updateDictKeys (hz := by have e := size_of_entries he; omega) (s := { s with toks := s.toks + knd.draws k }) ho hd (wpAny_pure (h _ _ rfl ⟨_, _, ep + 1, Heap.get?_update_self _ ho (Obj.isFreed_of_dict (Obj.data_mapDictKeys hd _)),
      hc.mapDictKeys _, Obj.data_mapDictKeys hd _, ?_, ?_, ?_⟩ (Heap.SameBut.update ..))))
    · rw [← erase_withoutH hn hj]
      obtain ⟨l⟩ := es
      have he' : l = xs.map (entryOfKey knd) := he
      subst he'
      have em : ∀ (l : List (K × Addr × Value)) (j : Nat), (l.map (entryOfKey knd)).eraseIdx j = (l.eraseIdx j).map (entryOfKey knd) := fun l => by
        induction l with
        | nil => intro j; rfl
        | cons x l ih => intro j; cases j with
          | zero => rfl
          | succ j => show entryOfKey knd x :: (l.map (entryOfKey knd)).eraseIdx j = entryOfKey knd x :: _; rw [ih j]
      simp [em]
    · intro x hx
      exact knd.keeps (his x (List.mem_filter.mp hx).1) ho hd (Heap.SameBut.update ..)
    · exact hn.sublist (List.Sublist.map _ List.filter_sublist)
theorem meetsH_dict_pop (d a : Addr) : MeetsIn prog w (Builtin.«dict.pop» ⟨[.ref d, .ref a], []⟩) (fun A R s => knd.room A.in1 ∧ ∃ k xs p, knd.is s.heap k a ∧ s.heap.DictOfH knd d xs ∧ atKey xs k = some p ∧ xs.length ≤ sizeLine ∧
      ∀ h', h'.DictOfH knd d (withoutH xs k) → Heap.SameBut d s.heap h' → R (.ok (.ret p.2)) { s with heap := h', toks := s.toks + knd.draws k }) :=
  .of_wp fun A R s ⟨hu, k, xs, p, hkey, hm, hp, hsz, h⟩ => by
    unfold Builtin.«dict.pop»
    refine wpAny_bind ?_
    unfold Builtin.Dict.keyAndDefault
    refine wpAny_bind (wpAny_notOrdered_dict hm.typeIs ?_)
    show wpAny _ _ (pure (d, Value.ref a, none)) _ _ s
    refine wpAny_pure ?_
    have hpart : (keyPart (Value.ref a)).isSome = false := rfl
    simp only [hpart, Bool.false_eq_true, if_false]
    obtain ⟨o, es, ep, ho, hc, hd, he, his, hn⟩ := id hm
    refine wpAny_bind (wpAny_dictEntries ho hd (wpAny_bind (wpAny_pure ?_)))
    have hne : es.isEmpty = false := by
      obtain ⟨j, hj⟩ := get_of_atKey hp
      have e := size_of_entries he
      have : j < xs.length := (List.getElem?_eq_some_iff.mp hj).1
      cases q : es.isEmpty with
      | false => rfl
      | true => rw [Array.isEmpty_iff_size_eq_zero] at q; omega
    simp only [hne, Bool.false_eq_true, if_false]
    refine wpAny_bind (takeOutH hu hkey hm hp hsz fun e h' ev hm' hs' => ?_)
    simp only [Option.isNone_some, Bool.false_eq_true, if_false]
    exact wpAny_bind (wpAny_letGo (wpAny_pure ⟨e.val, rfl, by rw [ev]; exact h h' hm' hs'⟩))
theorem meetsH_dict_len (d : Addr) (hd : (d == sysModules) = false) : MeetsIn prog w (Builtin.«dict.__len__» ⟨[.ref d], []⟩) (fun _ R s => ∃ xs, s.heap.DictOfH knd d xs ∧ R (.ok (.ret (.int xs.length s.toks))) { s with toks := s.toks + 1 }) :=
  .of_wp fun A R s ⟨xs, hm, h⟩ => by
    obtain ⟨o, es, ep, ho, hc, hdat, he, his, hn⟩ := hm
    show wpAny _ _ (dictSize d >>= _) _ _ s
    unfold dictSize
    refine wpAny_bind (wpAny_bind (wpAny_dictEntries ho hdat (wpAny_pure ?_)))
    show wpAny _ _ (Builtin.Dict.pendingCount d >>= _) _ _ s
    refine wpAny_bind (wpAny_pendingCount_other hd ?_)
    refine wpAny_ret_mkInt ?_
    rw [Nat.add_zero, size_of_entries he]
    exact h
theorem len_bodyH {d : Addr} {xs : List (K × Addr × Value)} {Q : Value → Shared → Prop} (hd : (d == sysModules) = false) (hm : s.heap.DictOfH knd d xs) (hfit : (xs.length : Int) < 2 ^ 63)
    (h : Q (.int xs.length (s.toks + 1)) { s with toks := s.toks + 1 + 1 }) : wpAny (model prog w) A (Builtin.«len» ⟨[.ref d], []⟩) (fun fin s' => ∃ r, fin = .done (.ret r) ∧ Q r s') E s := by
  unfold Builtin.«len»
  refine wpAny_bind (m := oneArg "len" _) (wpAny_pure ?_)
  refine wpAny_bind (m := callSpecial? (.ref d) (Str.ofString "__len__")) (wpAny_callSpecial?_slot (name := Str.ofString "__len__") hm.typeIs F.slot_dict_len
    (call_meetsIn F.slot_dict_len hm.typeIs F.entry_dict_len (F.args_dict_len_1 _) (meetsH_dict_len (knd := knd) d hd) ⟨xs, hm, ?_⟩))
  show wpAny _ _ _ _ _ { s with toks := s.toks + 1 }
  refine wpAny_bind (wpAny_holding (wpAny_pure ?_))
  refine wpAny_bind (wpAny_letGo ?_)
  show wpAny _ _ (if ((xs.length : Nat) : Int) < 0 then _ else _) _ _ _
  rw [if_neg (by omega)]
  show wpAny _ _ (if ((xs.length : Nat) : Int) ≥ 2 ^ 63 then _ else _) _ _ _
  rw [if_neg (by omega)]
  exact wpAny_bind (wpAny_mkInt (wpAny_pure ⟨_, rfl, h⟩))
theorem call_lenH {d : Addr} {xs : List (K × Addr × Value)} {Q : Value → Shared → Prop} (hd : (d == sysModules) = false) (hm : s.heap.DictOfH knd d xs) (hfit : (xs.length : Int) < 2 ^ 63)
    (h : Q (.int xs.length (s.toks + 1)) { s with toks := s.toks + 1 + 1 }) : wpAny (model prog w) A (call (.builtin "len") [.ref d]) Q E s :=
  Calls.call_function_entry kind_len plain_len entry_len (args_len1 _) (len_bodyH hd hm hfit h)
end
end HT
namespace L2
open PySem PySem.Spec PyProof.Rows
theorem KT.drop {H : Hp} {kvs : List (List Key × V)} {xs : List (List Key × Addr × Value)} (r : KT H kvs xs) (k : List Key) : KT H (dropK kvs k) (HT.withoutH xs k) := by
  unfold dropK HT.withoutH
  induction r with
  | nil => exact .nil
  | @cons p q ps qs h t ih =>
    obtain ⟨h1, h2⟩ := h
    rw [List.filter_cons, List.filter_cons]
    by_cases e : p.1 = k
    · have a : ¬ decide (p.1 ≠ k) = true := by simp [e]
      have b : ¬ decide (q.1 ≠ k) = true := by simp [h1.symm.trans e]
      rw [if_neg a, if_neg b]; exact ih
    · have e' : ¬ q.1 = k := fun z => e (h1.trans z)
      have a : decide (p.1 ≠ k) = true := by simp [e]
      have b : decide (q.1 ≠ k) = true := by simp [e']
      rw [if_pos a, if_pos b]; exact .cons ⟨h1, h2⟩ ih
section
variable {X : Cx} {pins : List (Addr × Obj)} {σ : St} {H : Hp} {s : Shared} {a b : Addr} {kvs : List (List Key × V)} {k : List Key} {A : Around} {E : Value → Shared → Prop}
/-- d.pop(t), t a tuple, there -/
theorem dt_pop {v : V} {Q : Value → Shared → Prop} (hu : A.units + 1 < cLine) (I : Inv X pins σ H s) (e : H a = some (.dT kvs)) (eb : H b = some (.tup (k.map kV))) (l : valV kvs k = some v)
    (h : ∀ w' s', Inv X pins σ (upd H a (.dT (dropK kvs k))) s' → RelV v w' → Q w' s') : wpAny (model X.prog X.w) A (call (.builtin "dict.pop") [.ref a, .ref b]) Q E s := by
  obtain ⟨z, hd, xs, rel, dd⟩ := dt_of I.hok e
  obtain ⟨w', hw, rw'⟩ := RelO.some_of (v := v) (o := (atKey xs k).map (·.2)) (by rw [← l]; exact rel.val k)
  obtain ⟨p, hp, hp2⟩ := Option.map_eq_some_iff.mp hw
  refine call_meetsIn PySem.F.slot_dict_pop dd.typeIs PySem.F.entry_dict_pop (PySem.F.args_dict_pop_2 _ _) (HT.meetsH_dict_pop (knd := tupleKind (mixKind X.prog X.w)) a b)
    ⟨tupleKind_room_in1 hu, k, xs, p, key_of I.hok eb, dd, hp, by rw [← Paired.length rel]; exact z, fun h' dd' hs => ?_⟩
  rw [hp2]
  refine h w' _ ?_ rw'
  obtain ⟨q, es, ep, hq, h2, h3, h4, _, h5⟩ := dd'
  refine d_write I (by rw [e]; exact True.intro) hs ⟨q, hq⟩ ⟨Nat.le_trans (dropK_le kvs k) z, hd, _, (rel.drop k).keeps fun c ys ec => ?_, q, es, ep, hq, h2, h3, h4, h5⟩
  rw [upd_ne (ne_of ec e (fun z => nomatch z))]
  exact ec
/-- len(d), the keys tuples -/
theorem dt_len {Q : Value → Shared → Prop} (I : Inv X pins σ H s) (e : Rd H a (.dT kvs)) (h : ∀ t s', Inv X pins σ H s' → Q (.int kvs.length t) s') : wpAny (model X.prog X.w) A (call (.builtin "len") [.ref a]) Q E s := by
  obtain ⟨z, hd, xs, rel, dd⟩ := dt_rd I.hok e
  have hl := Paired.length rel
  refine HT.call_lenH hd dd (by rw [← hl]; rw [sizeLine_eq] at z; omega) ?_
  rw [← hl]
  exact h _ _ (I.tok _)
end
/-- d.pop(t) -/
def tDPopT (td ty : TE) : TE := fun σ H Q => td σ H fun x H1 => ∃ a, x = .ref a ∧ IsD H1 a ∧ ty σ H1 fun y H2 => ∃ kvs k b v, H2 a = some (.dT kvs) ∧ y = .ref b ∧ H2 b = some (.tup (k.map kV)) ∧ valV kvs k = some v ∧ Q v (upd H2 a (.dT (dropK kvs k)))
section
variable {X : Cx} {o e : Expr} {apos cpos : Pos} {td ty : TE}
theorem pe_dpopT (hu : X.A.units + 1 < cLine) (ho : PE X o td) (he : PE X e ty) (m : M1 X o "pop" apos e cpos) : PE X (.Call (.Attribute o "pop" apos) [e] [] cpos) (tDPopT td ty) := by
  intro pins s σ H Q I h
  refine wpAny_Call_method m.base m.few m.line PySem.F.plainAttrs_dict PySem.F.slot_dict_pop PySem.F.type_dict_pop (thn (ho pins s σ H _ I h) fun u s1 ⟨x, H1, I1, rx, a, ex, d, q1⟩ => ?_)
  subst ex
  obtain rfl : u = Value.ref a := rx
  obtain ⟨t1, t2, _⟩ := isD_at I1 d
  refine ⟨t1, t2, ?_⟩
  rw [m.trees]
  refine Calls.callWith_builtin rfl (Calls.evalArgs_plain (Calls.spliced_cons (thn (he pins s1 σ H1 _ I1 q1) fun iv s2 ⟨y, H2, I2, ry, kvs, k, b, v, ea, ey, eb, l, q2⟩ => Calls.spliced_nil ?_)))
  subst ey
  obtain rfl : iv = Value.ref b := ry
  exact dt_pop hu I2 ea eb l fun w' s3 I3 rw' => ⟨v, _, I3, rw', q2⟩
/-- len of a dict, of either kind -/
theorem call_lenD : CallR X (.builtin "len") (fun xs H Q => (∃ p kvs, xs = [.ref p] ∧ Rd H p (.dT kvs) ∧ Q (.int kvs.length) H) ∨ ∃ p kvs, xs = [.ref p] ∧ Rd H p (.dK kvs) ∧ Q (.int kvs.length) H) := by
  intro pins s σ H vs us Q I r h
  rcases h with ⟨p, kvs, rfl, e, q⟩ | ⟨p, kvs, rfl, e, q⟩
  · cases r with
    | cons r1 r2 =>
      cases r2
      obtain rfl := (show _ = Value.ref p from r1)
      exact dt_len I e fun t s' I' => ⟨.int _, H, I', ⟨t, rfl⟩, q⟩
  · cases r with
    | cons r1 r2 =>
      cases r2
      obtain rfl := (show _ = Value.ref p from r1)
      exact d_len I e fun t s' I' => ⟨.int _, H, I', ⟨t, rfl⟩, q⟩
end
end L2

namespace L2
open PySem PySem.Spec PyProof.Rows
/-! ### for over reversed(a list) -/
def Itv (K : PySem.W.Frag) (a : Addr) (n : Nat) : It :=
  ⟨fun i H => ∃ xs, SqL K H a xs ∧ xs.length = n ∧ i < n, fun i H x H' => H' = H ∧ ∀ xs, SqL K H a xs → xs[n - 1 - i]? = some x, fun i H => n ≤ i⟩
def iRevL (K : PySem.W.Frag) (ta : TA) : TI := fun σ H R => ta σ H fun vs H1 => ∃ a xs, vs = [.ref a] ∧ SqL K H1 a xs ∧ R (Itv K a xs.length) H1
end L2

namespace L2
open PySem PySem.Spec PyProof.Rows
end L2

namespace L2
open PySem PySem.Spec PyProof.Rows
end L2

namespace L2
open PySem PySem.Spec PyProof.Rows PySem.W
/-- a def of the text that may be called by its name with its last argument left out -/
structure Cal1 (P : Program) (w : World) (K : Frag) (mg : Str → Option Value) (base : Heap) (CX : CXT) (k : Nat) (x : Str) (ps : List Str) (sp : Sp) (dv : V) : Prop where
  ex : ∃ (f : Addr) (fd : FuncData) (u : Value), mg x = some (.ref f) ∧ keepIn K (.ref f) = true ∧ Binds K fd ps [u] ∧ RelV dv u ∧ FnOk P w K mg base CX k f fd ps sp
end L2

namespace L2
open PySem PySem.Spec PyProof.Rows
/-! ### loops whose turns know nothing of what comes behind -/
theorem for_listN {K : PySem.W.Frag} {a : Addr} {xs : List V} {g : TG} {tb : TS} {D : Ends} {σ : St} {H : Hp} (Pv : Nat → St → Hp → Prop) (h0 : Pv 0 σ H) (hl : ∀ i σ H, i ≤ xs.length → Pv i σ H → SqL K H a xs)
    (hs : ∀ i x σ H (D' : Ends), (∀ σ' H', Pv (i + 1) σ' H' → D'.nx σ' H') → xs[i]? = some x → Pv i σ H → g x σ H (tb D')) (hd : ∀ σ H, Pv xs.length σ H → D.nx σ H) :
    ∃ W : Nat → Nat → St → Hp → Prop, (∃ m, W 0 m σ H) ∧ ∀ i m σ H, W i m σ H →
      ((Itl K a).stop i H ∧ D.nx σ H) ∨ ((Itl K a).go i H ∧ ∃ N : St → Hp → Prop, (∀ σ' H', N σ' H' → ∃ m', m' < m ∧ W (i + 1) m' σ' H') ∧ ∀ x H', (Itl K a).yld i H x H' → g x σ H' fun σ2 H2 => tb { D with nx := N, ct := N, bk := D.nx } σ2 H2) :=
  for_list Pv h0 hl (fun i x σ H hx p => hs i x σ H { D with nx := Pv (i + 1), ct := Pv (i + 1), bk := D.nx } (fun _ _ h => h) hx p) hd
end L2

namespace TR
open PySem PySem.Spec PyProof.Rows L2 GM
/-! ### pigeonholes -/
theorem nd_len {α : Type} [DecidableEq α] : ∀ {a b : List α}, a.Nodup → (∀ x ∈ a, x ∈ b) → a.length ≤ b.length
  | [], _, _, _ => Nat.zero_le _
  | x :: a, b, h, s => by
    rw [List.nodup_cons] at h
    have m := s x (List.mem_cons_self ..)
    have := nd_len (a := a) (b := b.erase x) h.2 fun y hy => by
      have ne : y ≠ x := fun e => h.1 (e ▸ hy)
      exact (List.mem_erase_of_ne ne).mpr (s y (List.mem_cons_of_mem _ hy))
    have l := List.length_erase_of_mem m
    have p := List.length_pos_of_mem m
    rw [List.length_cons]
    omega
theorem nd_all {α : Type} [DecidableEq α] {a b : List α} (h : a.Nodup) (s : ∀ x ∈ a, x ∈ b) (l : b.length ≤ a.length) : ∀ x ∈ b, x ∈ a := by
  intro x hx
  by_cases m : x ∈ a
  · exact m
  · have := nd_len (a := x :: a) (b := b) (List.nodup_cons.mpr ⟨m, h⟩) fun y hy => by
      rcases List.mem_cons.mp hy with e | e
      · exact e ▸ hx
      · exact s y e
    rw [List.length_cons] at this
    omega
/-! ### trees told by how many parts lie at each path -/
def Vp (ch : List Nat → Nat) : List Nat → Prop
  | [] => True
  | k :: r => k < ch [] ∧ Vp (fun q => ch (k :: q)) r
theorem Vp.app {k : Nat} : ∀ {ch : List Nat → Nat} {p : List Nat}, Vp ch (p ++ [k]) ↔ Vp ch p ∧ k < ch p
  | ch, [] => by simp [Vp]
  | ch, j :: r => by
    show (j < ch [] ∧ Vp (fun q => ch (j :: q)) (r ++ [k])) ↔ (j < ch [] ∧ Vp (fun q => ch (j :: q)) r) ∧ k < ch (j :: r)
    rw [Vp.app]
    exact ⟨fun ⟨a, b, c⟩ => ⟨⟨a, b⟩, c⟩, fun ⟨⟨a, b⟩, c⟩ => ⟨a, b, c⟩⟩
/-- the paths of a tree, a recipe ahead of its parts -/
def pre (ch : List Nat → Nat) : Nat → List Nat → List (List Nat)
  | 0, _ => []
  | n + 1, p => p :: (List.range (ch p)).flatMap fun k => pre ch n (p ++ [k])
theorem pre_has {ch : List Nat → Nat} : ∀ {t : List Nat} {n : Nat} {p : List Nat}, Vp ch (p ++ t) → t.length < n → p ++ t ∈ pre ch n p
  | [], 0, _, _, h => absurd h (by decide)
  | [], n + 1, p, _, _ => by rw [List.append_nil]; exact List.mem_cons_self ..
  | _ :: _, 0, _, _, h => absurd h (by simp)
  | k :: t, n + 1, p, v, h => by
    have e : p ++ k :: t = (p ++ [k]) ++ t := by simp
    rw [e] at v ⊢
    have vk : Vp ch (p ++ [k]) := by
      have : ∀ {t : List Nat} {q : List Nat}, Vp ch (q ++ t) → Vp ch q := fun {t} => by
        induction t with
        | nil => intro q h; simpa using h
        | cons a t ih =>
          intro q h
          have e : q ++ a :: t = (q ++ [a]) ++ t := by simp
          rw [e] at h
          exact (Vp.app.mp (ih h)).1
      exact this v
    refine List.mem_cons_of_mem _ (List.mem_flatMap.mpr ⟨k, List.mem_range.mpr (Vp.app.mp vk).2, pre_has v ?_⟩)
    rw [List.length_cons] at h
    omega
theorem pfx_snoc {p q : List Nat} {i j : Nat} (h1 : p ++ [i] <+: q) (h2 : p ++ [j] <+: q) : i = j := by
  obtain ⟨a, ha⟩ := h1
  obtain ⟨b, hb⟩ := h2
  rw [← hb, List.append_assoc, List.append_assoc] at ha
  have := List.append_cancel_left ha
  simp at this
  exact this.1
theorem pfx_no {p : List Nat} {i : Nat} (h : p ++ [i] <+: p) : False := by
  have := h.length_le
  simp at this
  omega
/-- needs, and how deep -/
structure TT (ch : List Nat → Nat) (nd : List Nat → Int) (N : Nat) : Prop where
  deep : ∀ p, Vp ch p → p.length < N
  zero : ∀ p, Vp ch p → ch p = 0 → nd p = 0
  need : ∀ p, Vp ch p → 1 ≤ ch p → Nd ((List.range (ch p)).map fun k => nd (p ++ [k])) (nd p)
/-! ### steps: the paths in the order in which they go -/
abbrev pk (ks : List Nat) : List Key := ks.map fun (k : Nat) => Sum.inl (k : Int)
theorem pk_inj {a b : List Nat} (h : pk a = pk b) : a = b := by
  have e : ∀ {a b : List Nat}, pk a = pk b → a = b := fun {a} => by
    induction a with
    | nil => intro b h; cases b with
      | nil => rfl
      | cons _ _ => simp [pk] at h
    | cons x a ih =>
      intro b h
      cases b with
      | nil => simp [pk] at h
      | cons y b =>
        have h' : (Sum.inl (x : Int) : Key) :: pk a = Sum.inl (y : Int) :: pk b := h
        injection h' with h1 h2
        injection h1 with h1
        rw [ih h2]
        congr 1
        omega
  exact e h
theorem pk_kV (ks : List Nat) : (pk ks).map kV = pth ks := by
  rw [List.map_map]
  rfl
def hvS (ch : List Nat → Nat) (kvs : List (List Key × V)) (p : List Nat) : List (List Key × V) := putK (if ch p = 0 then kvs else dropK kvs (pk p)) (pk p.dropLast) (.bl true)
/-- the dict of what is had, behind the steps g -/
def hv (ch : List Nat → Nat) (g : List (List Nat)) : List (List Key × V) := g.foldl (hvS ch) []
theorem hv_snoc {ch : List Nat → Nat} {g : List (List Nat)} {p : List Nat} : hv ch (g ++ [p]) = hvS ch (hv ch g) p := by simp [hv]
def wdS (ch : List Nat → Nat) (s : List (List Key × V) × Int) (p : List Nat) : List (List Key × V) × Int := (hvS ch s.1 p, max s.2 ((hvS ch s.1 p).length : Int))
/-- the most that are had at one time -/
def wd (ch : List Nat → Nat) (g : List (List Nat)) : Int := (g.foldl (wdS ch) ([], 0)).2
theorem wd_fst {ch : List Nat → Nat} : ∀ {g : List (List Nat)} {s : List (List Key × V) × Int}, (g.foldl (wdS ch) s).1 = g.foldl (hvS ch) s.1
  | [], _ => rfl
  | p :: g, s => wd_fst (g := g) (s := wdS ch s p)
theorem wd_snoc {ch : List Nat → Nat} {g : List (List Nat)} {p : List Nat} : wd ch (g ++ [p]) = max (wd ch g) ((hv ch (g ++ [p])).length : Int) := by
  unfold wd
  rw [List.foldl_append]
  show max (g.foldl (wdS ch) ([], 0)).2 ((hvS ch (g.foldl (wdS ch) ([], 0)).1 p).length : Int) = _
  rw [wd_fst, hv_snoc]
  rfl
theorem wd_pre {ch : List Nat → Nat} {g : List (List Nat)} : ∀ {a : List (List Nat)}, a <+: g → ((hv ch a).length : Int) ≤ wd ch g := by
  have base : ∀ {b : List (List Nat)} {a : List (List Nat)}, ((hv ch a).length : Int) ≤ wd ch a → ((hv ch a).length : Int) ≤ wd ch (a ++ b) := fun {b} => by
    induction b with
    | nil => intro a h; simpa using h
    | cons x b ih =>
      intro a h
      have e : a ++ x :: b = (a ++ [x]) ++ b := by simp
      have := ih (a := a ++ [x]) (by rw [wd_snoc]; omega)
      have m : wd ch a ≤ wd ch (a ++ [x]) := by rw [wd_snoc]; omega
      have mono : ∀ {b a : List (List Nat)}, wd ch a ≤ wd ch (a ++ b) := fun {b} => by
        induction b with
        | nil => intro a; simp
        | cons y b ih =>
          intro a
          have e : a ++ y :: b = (a ++ [y]) ++ b := by simp
          rw [e]
          have := ih (a := a ++ [y])
          rw [wd_snoc] at this
          omega
      rw [e]
      have := mono (b := b) (a := a ++ [x])
      omega
  intro a h
  obtain ⟨b, rfl⟩ := h
  refine base ?_
  cases e : a.reverse with
  | nil =>
    have : a = [] := List.reverse_eq_nil_iff.mp e
    subst this
    exact Int.le_refl _
  | cons x i =>
    have : a = i.reverse ++ [x] := by have := congrArg List.reverse e; simpa using this
    rw [this, wd_snoc]
    omega
/-- steps by the rules: each path once, below the root, its parts ahead of it -/
def Lg (ch : List Nat → Nat) (g : List (List Nat)) : Prop := ∀ a p b, g = a ++ p :: b → Vp ch p ∧ p ≠ [] ∧ p ∉ a ∧ ∀ k, k < ch p → p ++ [k] ∈ a
theorem Lg.nil {ch : List Nat → Nat} : Lg ch [] := fun a p b h => by simp at h
theorem Lg.snoc {ch : List Nat → Nat} {g : List (List Nat)} {p : List Nat} (h : Lg ch g) (v : Vp ch p) (ne : p ≠ []) (n : p ∉ g) (c : ∀ k, k < ch p → p ++ [k] ∈ g) : Lg ch (g ++ [p]) := fun a q b e => by
  rcases List.append_eq_append_iff.mp e with ⟨as, e1, e2⟩ | ⟨bs, e1, e2⟩
  · cases as with
    | nil =>
      simp at e1 e2
      obtain ⟨rfl, rfl⟩ := e2
      subst e1
      exact ⟨v, ne, n, c⟩
    | cons x xs => simp at e2
  · cases bs with
    | nil =>
      simp at e1 e2
      obtain ⟨rfl, rfl⟩ := e2
      subst e1
      exact ⟨v, ne, n, c⟩
    | cons x xs =>
      simp at e2
      obtain ⟨rfl, e3⟩ := e2
      exact h a q xs e1
theorem Lg.pre {ch : List Nat → Nat} {g a : List (List Nat)} (h : Lg ch g) (p : a <+: g) : Lg ch a := fun x q y e => by
  obtain ⟨b, rfl⟩ := p
  exact h x q (y ++ b) (by rw [e]; simp)
theorem Lg.init {ch : List Nat → Nat} {g : List (List Nat)} {p : List Nat} (h : Lg ch (g ++ [p])) : Lg ch g := h.pre (List.prefix_append ..)
theorem Lg.mem {ch : List Nat → Nat} {g : List (List Nat)} {p : List Nat} (h : Lg ch g) (m : p ∈ g) : Vp ch p ∧ p ≠ [] ∧ ∀ k, k < ch p → p ++ [k] ∈ g := by
  obtain ⟨a, b, rfl⟩ := List.append_of_mem m
  have := h a p b rfl
  exact ⟨this.1, this.2.1, fun k hk => List.mem_append_left _ (this.2.2.2 k hk)⟩
theorem Lg.nodup {ch : List Nat → Nat} : ∀ {g : List (List Nat)}, Lg ch g → g.Nodup := fun {g} => by
  have : ∀ n (g : List (List Nat)), g.length = n → Lg ch g → g.Nodup := fun n => by
    induction n with
    | zero => intro g e h; have : g = [] := List.length_eq_zero_iff.mp e; subst this; exact List.nodup_nil
    | succ n ih =>
      intro g e h
      cases er : g.reverse with
      | nil => have : g = [] := List.reverse_eq_nil_iff.mp er; subst this; exact List.nodup_nil
      | cons x i =>
        have eg : g = i.reverse ++ [x] := by have := congrArg List.reverse er; simpa using this
        subst eg
        have := ih i.reverse (by simp at e; simpa using e) h.init
        rw [List.nodup_append]
        refine ⟨this, by simp, fun a ha b hb eab => ?_⟩
        have ex : b = x := by simpa using hb
        rw [eab, ex] at ha
        exact (h i.reverse x [] (by simp)).2.2.1 ha
  exact this _ g rfl
theorem valV_drop {kvs : List (List Key × V)} {k j : List Key} : valV (dropK kvs k) j = if j = k then none else valV kvs j := by
  induction kvs with
  | nil => unfold dropK valV; simp
  | cons p r ih =>
    unfold dropK at ih ⊢
    rw [List.filter_cons]
    by_cases e : p.1 = k
    · rw [if_neg (by simp [e]), ih]
      by_cases f : j = k
      · rw [if_pos f, if_pos f]
      · rw [if_neg f, if_neg f, valV_neg (fun z => f (z.symm.trans e))]
    · rw [if_pos (by simp [e])]
      by_cases f : p.1 = j
      · rw [valV_pos f, valV_pos f, if_neg (fun z => e (f.trans z))]
      · rw [valV_neg f, valV_neg f, ih]
/-- what is had: what a part has gone from, and has not gone itself -/
theorem hv_at {ch : List Nat → Nat} : ∀ {n : Nat} {g : List (List Nat)}, g.length = n → Lg ch g → ∀ q, valV (hv ch g) (pk q) = @ite (Option V) ((∃ k, q ++ [k] ∈ g) ∧ q ∉ g) (Classical.propDecidable _) (some (.bl true)) none := by
  intro n
  induction n with
  | zero =>
    intro g e h q
    have : g = [] := List.length_eq_zero_iff.mp e
    subst this
    rw [if_neg (by rintro ⟨⟨k, hk⟩, _⟩; simp at hk)]
    rfl
  | succ n ih =>
    intro g e h q
    cases er : g.reverse with
    | nil =>
      have : g = [] := List.reverse_eq_nil_iff.mp er
      subst this
      simp at e
    | cons x i =>
      have eg : g = i.reverse ++ [x] := by have := congrArg List.reverse er; simpa using this
      generalize i.reverse = g' at eg
      subst eg
      have ih' := ih (g := g') (by simpa using e) h.init
      obtain ⟨vx, nx, hx, cx⟩ := h g' x [] (by simp)
      rw [hv_snoc]
      unfold hvS
      rw [valV_put]
      obtain ⟨y, k, rfl⟩ : ∃ y k, x = y ++ [k] := ⟨x.dropLast, x.getLast nx, (List.dropLast_concat_getLast nx).symm⟩
      rw [List.dropLast_concat]
      have yx : y ∉ g' ++ [y ++ [k]] := fun m => by
        rcases List.mem_append.mp m with m | m
        · exact hx ((h.init.mem m).2.2 k (Vp.app.mp vx).2)
        · have : y = y ++ [k] := by simpa using m
          simp at this
      by_cases f : q = y
      · subst f
        rw [if_pos rfl, if_pos ⟨⟨k, by simp⟩, yx⟩]
      · rw [if_neg (fun z => f (pk_inj z))]
        have keep : valV (if ch (y ++ [k]) = 0 then hv ch g' else dropK (hv ch g') (pk (y ++ [k]))) (pk q) = if q = y ++ [k] then none else valV (hv ch g') (pk q) := by
          by_cases c0 : ch (y ++ [k]) = 0
          · rw [if_pos c0]
            by_cases fq : q = y ++ [k]
            · rw [if_pos fq, ih' q, if_neg]
              rintro ⟨⟨j, hj⟩, _⟩
              have := (Vp.app.mp (h.init.mem hj).1).2
              rw [fq, c0] at this
              exact absurd this (by omega)
            · rw [if_neg fq]
          · rw [if_neg c0, valV_drop]
            by_cases fq : q = y ++ [k]
            · rw [if_pos fq, if_pos (by rw [fq])]
            · rw [if_neg fq, if_neg (fun z => fq (pk_inj z))]
        rw [keep]
        by_cases fq : q = y ++ [k]
        · rw [if_pos fq, if_neg]
          rintro ⟨_, hn⟩
          exact hn (by rw [fq]; simp)
        · rw [if_neg fq, ih' q]
          have e1 : (∃ j, q ++ [j] ∈ g' ++ [y ++ [k]]) ↔ ∃ j, q ++ [j] ∈ g' := by
            constructor
            · rintro ⟨j, hj⟩
              rcases List.mem_append.mp hj with hj | hj
              · exact ⟨j, hj⟩
              · have e : q ++ [j] = y ++ [k] := by simpa using hj
                have := List.append_inj_left' e rfl
                exact absurd this f
            · rintro ⟨j, hj⟩
              exact ⟨j, List.mem_append_left _ hj⟩
          have e2 : q ∉ g' ++ [y ++ [k]] ↔ q ∉ g' := by
            constructor
            · intro h m; exact h (List.mem_append_left _ m)
            · intro h m
              rcases List.mem_append.mp m with m | m
              · exact h m
              · exact fq (by simpa using m)
          by_cases c : (∃ j, q ++ [j] ∈ g') ∧ q ∉ g'
          · rw [if_pos c, if_pos ⟨e1.mpr c.1, e2.mpr c.2⟩]
          · rw [if_neg c, if_neg (fun z => c ⟨e1.mp z.1, e2.mp z.2⟩)]
theorem valV_mem {kvs : List (List Key × V)} {k : List Key} {v : V} (h : valV kvs k = some v) : ∃ kv ∈ kvs, kv.1 = k := by
  unfold valV at h
  cases e : kvs.find? fun kv => decide (kv.1 = k) with
  | none => rw [e] at h; cases h
  | some kv => exact ⟨kv, List.mem_of_find?_eq_some e, by simpa using List.find?_some e⟩
theorem mem_valV {kvs : List (List Key × V)} {kv : List Key × V} (h : kv ∈ kvs) : (valV kvs kv.1).isSome := by
  rw [← valV_any]
  exact List.any_eq_true.mpr ⟨kv, h, by simp⟩
/-- all keys are paths -/
theorem hv_keys {ch : List Nat → Nat} : ∀ {n : Nat} {g : List (List Nat)}, g.length = n → ∀ kv ∈ hv ch g, ∃ q, kv.1 = pk q := by
  intro n
  induction n with
  | zero =>
    intro g e kv h
    have : g = [] := List.length_eq_zero_iff.mp e
    subst this
    exact nomatch h
  | succ n ih =>
    intro g e kv h
    cases er : g.reverse with
    | nil =>
      have : g = [] := List.reverse_eq_nil_iff.mp er
      subst this
      simp at e
    | cons x i =>
      have eg : g = i.reverse ++ [x] := by have := congrArg List.reverse er; simpa using this
      generalize i.reverse = g' at eg
      subst eg
      rw [hv_snoc] at h
      have ih' := ih (g := g') (by simpa using e)
      have d : ∀ kv ∈ (if ch x = 0 then hv ch g' else dropK (hv ch g') (pk x)), ∃ q, kv.1 = pk q := fun kv hk => by
        split at hk
        · exact ih' kv hk
        · exact ih' kv (List.mem_filter.mp hk).1
      unfold hvS at h
      generalize (if ch x = 0 then hv ch g' else dropK (hv ch g') (pk x)) = L at h d
      unfold putK at h
      split at h
      · obtain ⟨kv', m, rfl⟩ := List.mem_map.mp h
        split
        · exact d kv' m
        · exact d kv' m
      · rcases List.mem_append.mp h with h | h
        · exact d kv h
        · have : kv = (pk x.dropLast, .bl true) := by simpa using h
          exact ⟨_, by rw [this]⟩
def und (q : List Nat) (kv : List Key × V) : Bool := decide (pk q <+: kv.1)
theorem pk_pfx {a b : List Nat} : pk a <+: pk b ↔ a <+: b := by
  constructor
  · rintro ⟨t, ht⟩
    have e : pk a = pk (b.take a.length) := by
      rw [pk, pk, List.map_take]
      have : (pk b).take a.length = pk a := by
        rw [← ht, List.take_append_of_le_length (by simp)]
        exact List.take_of_length_le (by simp)
      exact this.symm
    rw [pk_inj e]
    exact List.take_prefix ..
  · rintro ⟨t, rfl⟩
    exact ⟨pk t, by simp [pk]⟩
theorem count_more {kvs : List (List Key × V)} {a b : List Nat} (h : b <+: a) {kv : List Key × V} (m : kv ∈ kvs) (h1 : und b kv = true) (h2 : und a kv = false) : kvs.countP (und a) + 1 ≤ kvs.countP (und b) := by
  have imp : ∀ kv, und a kv = true → und b kv = true := fun kv hk => by
    unfold und at hk ⊢
    rw [decide_eq_true_eq] at hk ⊢
    exact (pk_pfx.mpr h).trans hk
  induction kvs with
  | nil => exact nomatch m
  | cons x r ih =>
    rw [List.countP_cons, List.countP_cons]
    rcases List.mem_cons.mp m with e | e
    · subst e
      rw [h1, h2]
      have : r.countP (und a) ≤ r.countP (und b) := List.countP_mono_left fun x _ => imp x
      simp
      omega
    · have := ih e
      by_cases c : und a x = true
      · rw [c, imp x c]
        simp
        omega
      · simp only [Bool.not_eq_true] at c
        rw [c]
        simp
        omega
theorem count_mono {kvs : List (List Key × V)} {a b : List Nat} (h : b <+: a) : kvs.countP (und a) ≤ kvs.countP (und b) := List.countP_mono_left fun kv _ hk => by
  unfold und at hk ⊢
  rw [decide_eq_true_eq] at hk ⊢
  exact (pk_pfx.mpr h).trans hk
/-- going up from what has gone to what has not -/
theorem climb {ch : List Nat → Nat} {a : List (List Nat)} {q : List Nat} {k : Nat} (h : Lg ch a) (nq : q ∉ a) : ∀ (n : Nat) (x : List Nat), x.length = n → q ++ [k] <+: x → x ∈ a → ∃ y, (y = q ∨ q ++ [k] <+: y) ∧ valV (hv ch a) (pk y) = some (.bl true) := by
  intro n
  induction n with
  | zero =>
    intro x e p
    have := p.length_le
    simp at this
    omega
  | succ n ih =>
    intro x e p m
    have nx : x ≠ [] := by intro z; subst z; simp at e
    obtain ⟨y, j, rfl⟩ : ∃ y j, x = y ++ [j] := ⟨x.dropLast, x.getLast nx, (List.dropLast_concat_getLast nx).symm⟩
    have side : y = q ∨ q ++ [k] <+: y := by
      obtain ⟨t, ht⟩ := p
      cases er : t.reverse with
      | nil =>
        have : t = [] := List.reverse_eq_nil_iff.mp er
        subst this
        rw [List.append_nil] at ht
        exact .inl (List.append_inj_left' ht rfl).symm
      | cons z i =>
        have et : t = i.reverse ++ [z] := by have := congrArg List.reverse er; simpa using this
        rw [et, ← List.append_assoc] at ht
        exact .inr ⟨i.reverse, List.append_inj_left' ht rfl⟩
    by_cases my : y ∈ a
    · rcases side with rfl | side
      · exact absurd my nq
      · exact ih y (by simpa using e) side my
    · exact ⟨y, side, by rw [hv_at rfl h, if_pos ⟨⟨j, m⟩, my⟩]⟩
theorem und_self {kvs : List (List Key × V)} {q y : List Nat} (h : valV kvs (pk y) = some (.bl true)) (p : q <+: y) : ∃ kv ∈ kvs, und q kv = true ∧ kv.1 = pk y := by
  obtain ⟨kv, m, e⟩ := valV_mem h
  exact ⟨kv, m, by unfold und; rw [decide_eq_true_eq, e]; exact pk_pfx.mpr p, e⟩
theorem narrow {ch : List Nat → Nat} {nd : List Nat → Int} {N : Nat} {g : List (List Nat)} (t : TT ch nd N) (l : Lg ch g) (all : ∀ p, Vp ch p → p ≠ [] → p ∈ g) :
    ∀ (n : Nat) (q : List Nat), N ≤ q.length + n → Vp ch q → 1 ≤ ch q → ∃ a, a <+: g ∧ q ∉ a ∧ nd q ≤ ((hv ch a).countP (und q) : Nat) := by
  intro n
  induction n with
  | zero =>
    intro q e v
    have := t.deep q v
    omega
  | succ n ih =>
    intro q e v c
    have hd := t.need q v c
    have d1 := hd.pos
    have kid : ∀ k, k < ch q → 1 ≤ nd (q ++ [k]) → ∃ a, a <+: g ∧ q ++ [k] ∉ a ∧ nd (q ++ [k]) ≤ ((hv ch a).countP (und (q ++ [k])) : Nat) := fun k hk h1 => by
      have vk : Vp ch (q ++ [k]) := Vp.app.mpr ⟨v, hk⟩
      refine ih (q ++ [k]) (by simp; omega) vk ?_
      by_cases z : ch (q ++ [k]) = 0
      · have := t.zero _ vk z
        omega
      · omega
    have up : ∀ {a k}, a <+: g → k < ch q → q ++ [k] ∉ a → q ∉ a := fun {a k} pa hk hn m => hn (((l.pre pa).mem m).2.2 k hk)
    by_cases m : nd q ∈ (List.range (ch q)).map fun k => nd (q ++ [k])
    · obtain ⟨k, hk, ek⟩ := List.mem_map.mp m
      have hk' := List.mem_range.mp hk
      obtain ⟨a, pa, na, ca⟩ := kid k hk' (by rw [ek]; exact d1)
      refine ⟨a, pa, up pa hk' na, ?_⟩
      have := count_mono (kvs := hv ch a) (a := q ++ [k]) (b := q) (List.prefix_append ..)
      omega
    · by_cases d2 : 2 ≤ nd q
      · obtain ⟨i, j, ij, hi, hj⟩ := hd.two d2 m
        have get : ∀ {i : Nat} {x : Int}, ((List.range (ch q)).map fun k => nd (q ++ [k]))[i]? = some x → i < ch q ∧ nd (q ++ [i]) = x := fun {i x} h => by
          rw [List.getElem?_map] at h
          have il : i < ch q := by
            rcases Nat.lt_or_ge i (ch q) with z | z
            · exact z
            · rw [List.getElem?_eq_none (by simpa using z)] at h
              cases h
          rw [List.getElem?_eq_getElem (by simpa using il)] at h
          simp at h
          exact ⟨il, h⟩
        obtain ⟨il, ei⟩ := get hi
        obtain ⟨jl, ej⟩ := get hj
        obtain ⟨a1, p1, n1, c1⟩ := kid i il (by omega)
        obtain ⟨a2, p2, n2, c2⟩ := kid j jl (by omega)
        -- the later time serves
        have core : ∀ {i j : Nat} {a1 a2 : List (List Nat)}, i ≠ j → j < ch q → a1 <+: a2 → a2 <+: g → q ++ [j] ∉ a2 → 1 ≤ (hv ch a1).countP (und (q ++ [i])) → nd q - 1 ≤ ((hv ch a2).countP (und (q ++ [j])) : Nat) → nd q ≤ ((hv ch a2).countP (und q) : Nat) := fun {i j a1 a2} ij jl p12 p2 n2 c1 c2 => by
          obtain ⟨kv, mk, uk⟩ := List.countP_pos_iff.mp (show 0 < _ from c1)
          obtain ⟨r, er⟩ := hv_keys rfl kv mk
          have hr : (valV (hv ch a1) (pk r)).isSome := er ▸ mem_valV mk
          rw [hv_at rfl (l.pre (p12.trans p2))] at hr
          have hr' : (∃ k, r ++ [k] ∈ a1) ∧ r ∉ a1 := by
            by_cases z : (∃ k, r ++ [k] ∈ a1) ∧ r ∉ a1
            · exact z
            · rw [if_neg z] at hr; cases hr
          obtain ⟨⟨x, hx⟩, _⟩ := hr'
          have ur : q ++ [i] <+: r := by
            unfold und at uk
            rw [decide_eq_true_eq, er] at uk
            exact pk_pfx.mp uk
          have nq : q ∉ a2 := up p2 jl n2
          obtain ⟨y, hy, vy⟩ := climb (l.pre p2) nq _ (r ++ [x]) rfl (ur.trans (List.prefix_append ..)) (p12.subset hx)
          have qy : q <+: y := by
            rcases hy with rfl | hy
            · exact List.prefix_rfl
            · exact List.IsPrefix.trans (List.prefix_append ..) hy
          obtain ⟨kv', mk', u1, ek⟩ := und_self vy qy
          have u2 : und (q ++ [j]) kv' = false := by
            unfold und
            rw [decide_eq_false_iff_not, ek, pk_pfx]
            intro z
            rcases hy with rfl | hy
            · exact pfx_no z
            · exact ij (pfx_snoc hy z)
          have := count_more (kvs := hv ch a2) (a := q ++ [j]) (b := q) (List.prefix_append ..) mk' u1 u2
          omega
        rcases List.prefix_or_prefix_of_prefix p1 p2 with pp | pp
        · exact ⟨a2, p2, up p2 jl n2, core (i := i) (j := j) (by omega) jl pp p2 n2 (by omega) (by omega)⟩
        · exact ⟨a1, p1, up p1 il n1, core (i := j) (j := i) (by omega) il pp p1 n1 (by omega) (by omega)⟩
      · have vk : Vp ch (q ++ [0]) := Vp.app.mpr ⟨v, by omega⟩
        obtain ⟨a, b, eg⟩ := List.append_of_mem (all _ vk (by simp))
        have lk := l a _ b eg
        have pa : a ++ [q ++ [0]] <+: g := ⟨b, by rw [eg]; simp⟩
        have nq : q ∉ a ++ [q ++ [0]] := fun mq => by
          rcases List.mem_append.mp mq with mq | mq
          · exact lk.2.2.1 (((l.pre ((List.prefix_append a [q ++ [0]]).trans pa)).mem mq).2.2 0 (by omega))
          · have : q = q ++ [0] := by simpa using mq
            simp at this
        refine ⟨_, pa, nq, ?_⟩
        have vq : valV (hv ch (a ++ [q ++ [0]])) (pk q) = some (.bl true) := by rw [hv_at rfl (l.pre pa), if_pos ⟨⟨0, by simp⟩, nq⟩]
        obtain ⟨kv, m, u, _⟩ := und_self vq (List.prefix_rfl (l := q))
        have := List.countP_pos_iff.mpr ⟨kv, m, u⟩
        omega
theorem narrowest {ch : List Nat → Nat} {nd : List Nat → Int} {N : Nat} {g : List (List Nat)} (t : TT ch nd N) (l : Lg ch g) (all : ∀ p, Vp ch p → p ≠ [] → p ∈ g) (c : 1 ≤ ch []) : nd [] ≤ wd ch g := by
  obtain ⟨a, pa, _, ca⟩ := narrow t l all N [] (by simp) trivial c
  have h1 := wd_pre (ch := ch) pa
  have h2 : (hv ch a).countP (und []) ≤ (hv ch a).length := List.countP_le_length
  omega
end TR

namespace TR
open PySem PySem.Spec PyProof.Rows L2 GM
/-! ### a tree in the heap, told by its paths -/
def Hd (H : Hp) : Nat → V → (List Nat → Nat) → (List Nat → Int) → Prop
  | 0, _, _, _ => False
  | n + 1, v, ch, nd => (∃ (p m : Addr) (x : Str), v = .ref p ∧ H p = some (.tup [.str "ware", .str x, .ref m]) ∧ ch [] = 0 ∧ nd [] = 0) ∨
    (∃ (p m q : Addr) (x : Str) (vs : List V), v = .ref p ∧ H p = some (.tup [.str "recipe", .str x, .ref m, .ref q]) ∧ H q = some (.tup vs) ∧ 1 ≤ vs.length ∧ vs.length < 64 ∧ ch [] = vs.length ∧
      Nd ((List.range vs.length).map fun k => nd [k]) (nd []) ∧ ∀ (k : Nat) c, vs[k]? = some c → Hd H n c (fun r => ch (k :: r)) (fun r => nd (k :: r)))
theorem pre_shift {k : Nat} {ch : List Nat → Nat} : ∀ {n : Nat} {p : List Nat}, pre ch n (k :: p) = (pre (fun r => ch (k :: r)) n p).map (k :: ·)
  | 0, _ => rfl
  | n + 1, p => by
    show (k :: p) :: (List.range (ch (k :: p))).flatMap (fun j => pre ch n (k :: (p ++ [j]))) = (k :: p) :: List.map (k :: ·) ((List.range (ch (k :: p))).flatMap fun j => pre (fun r => ch (k :: r)) n (p ++ [j]))
    rw [List.map_flatMap]
    congr 2
    funext j
    exact pre_shift
theorem flat_len {α β : Type} {f : α → List β} : ∀ {l : List α}, (l.flatMap f).length = (l.map fun x => (f x).length).sum
  | [] => rfl
  | x :: l => by rw [List.flatMap_cons, List.length_append, List.map_cons, List.sum_cons, flat_len]
abbrev shf {α : Type} (ks : List Nat) (f : List Nat → α) : List Nat → α := fun r => f (ks ++ r)
theorem shf_snoc {α : Type} {ks : List Nat} {k : Nat} {f : List Nat → α} : (fun r => shf ks f (k :: r)) = shf (ks ++ [k]) f := by
  funext r
  show f (ks ++ k :: r) = f ((ks ++ [k]) ++ r)
  rw [List.append_assoc]
  rfl
theorem Hd.at {H : Hp} : ∀ {p : List Nat} {n : Nat} {v : V} {ch : List Nat → Nat} {nd : List Nat → Int}, Hd H n v ch nd → Vp ch p → ∃ m u, n = p.length + m ∧ AtP H v p u ∧ Hd H m u (shf p ch) (shf p nd)
  | [], n, v, ch, nd, h, _ => ⟨n, v, by simp, rfl, h⟩
  | k :: r, 0, v, ch, nd, h, _ => h.elim
  | k :: r, n + 1, v, ch, nd, h, ⟨kl, vr⟩ => by
    rcases h with ⟨p, m, x, e, hp, c0, _⟩ | ⟨p, m, q, x, vs, e, hp, hq, l1, l2, c, hn, hc⟩
    · omega
    · obtain ⟨c', hk⟩ : ∃ c', vs[k]? = some c' := ⟨_, List.getElem?_eq_getElem (by omega)⟩
      obtain ⟨m', u, en, ap, hu⟩ := (hc k c' hk).at vr
      exact ⟨m', u, by rw [List.length_cons]; omega, ⟨p, m, q, x, vs, c', e, hp, hq, hk, ap⟩, hu⟩
theorem Hd.tt {H : Hp} {n : Nat} {v : V} {ch : List Nat → Nat} {nd : List Nat → Int} (h : Hd H n v ch nd) : TT ch nd n := by
  refine ⟨fun p vp => ?_, fun p vp c0 => ?_, fun p vp c1 => ?_⟩
  · obtain ⟨m, u, e, _, hu⟩ := h.at vp
    cases m with
    | zero => exact hu.elim
    | succ m => omega
  · obtain ⟨m, u, e, _, hu⟩ := h.at vp
    cases m with
    | zero => exact hu.elim
    | succ m =>
      rcases hu with ⟨_, _, _, _, _, _, d⟩ | ⟨_, _, _, _, vs, _, _, _, l1, _, c, _⟩
      · have d' : nd (p ++ []) = 0 := d
        rwa [List.append_nil] at d'
      · have : ch (p ++ []) = vs.length := c
        rw [List.append_nil] at this
        omega
  · obtain ⟨m, u, e, _, hu⟩ := h.at vp
    cases m with
    | zero => exact hu.elim
    | succ m =>
      rcases hu with ⟨_, _, _, _, _, c, d⟩ | ⟨_, _, _, _, vs, _, _, _, l1, _, c, hn, _⟩
      · have : ch (p ++ []) = 0 := c
        rw [List.append_nil] at this
        omega
      · have c' : ch (p ++ []) = vs.length := c
        rw [List.append_nil] at c'
        rw [c']
        have : Nd ((List.range vs.length).map fun k => nd (p ++ [k])) (nd (p ++ [])) := hn
        rwa [List.append_nil] at this
/-- an entry of the list of paths: a path, and what lies there -/
def En (H : Hp) (ch : List Nat → Nat) (nd : List Nat → Int) (N : Nat) (e : Addr) (ks : List Nat) : Prop := ∃ (pa : Addr) (v : V) (n : Nat), H e = some (.tup [.ref pa, v]) ∧ H pa = some (.tup (pth ks)) ∧ Hd H n v (shf ks ch) (shf ks nd) ∧ ks.length + n = N
/-- what a pile of entries still brings, the last one first -/
def bri (ch : List Nat → Nat) (N : Nat) (es : List (Addr × List Nat)) : List (List Nat) := es.reverse.flatMap fun e => pre ch (N - e.2.length) e.2
end TR

namespace TR
open PySem PySem.Spec PyProof.Rows L2 GM
/-! ### how many parts have gone into a recipe -/
def cnt (g : List (List Nat)) (q : List Nat) : Nat := (g.filter fun p => decide (p ≠ [] ∧ p.dropLast = q)).length
theorem cnt_snoc {g : List (List Nat)} {y q : List Nat} {k : Nat} : cnt (g ++ [y ++ [k]]) q = cnt g q + if q = y then 1 else 0 := by
  unfold cnt
  rw [List.filter_append, List.length_append, List.filter_cons]
  by_cases e : q = y
  · rw [if_pos e, if_pos (by simp [e])]
    rfl
  · rw [if_neg e, if_neg (by simp; exact fun z => e z.symm)]
    rfl
theorem cnt_le {g : List (List Nat)} {q : List Nat} : cnt g q ≤ g.length := List.length_filter_le ..
theorem cnt_kids {ch : List Nat → Nat} {g : List (List Nat)} {q : List Nat} (l : Lg ch g) : ch q ≤ cnt g q ↔ ∀ k, k < ch q → q ++ [k] ∈ g := by
  have sub : ∀ x ∈ (g.filter fun p => decide (p ≠ [] ∧ p.dropLast = q)), x ∈ (List.range (ch q)).map fun k => q ++ [k] := fun x hx => by
    obtain ⟨m, h⟩ := List.mem_filter.mp hx
    rw [decide_eq_true_eq] at h
    obtain ⟨y, k, rfl⟩ : ∃ y k, x = y ++ [k] := ⟨x.dropLast, x.getLast h.1, (List.dropLast_concat_getLast h.1).symm⟩
    have e : y = q := by simpa using h.2
    subst e
    exact List.mem_map.mpr ⟨k, List.mem_range.mpr (Vp.app.mp (l.mem m).1).2, rfl⟩
  have nd1 : (g.filter fun p => decide (p ≠ [] ∧ p.dropLast = q)).Nodup := l.nodup.sublist List.filter_sublist
  constructor
  · intro h k hk
    have := nd_all nd1 sub (by simpa [cnt] using h) (q ++ [k]) (List.mem_map.mpr ⟨k, List.mem_range.mpr hk, rfl⟩)
    exact (List.mem_filter.mp this).1
  · intro h
    have nd2 : ((List.range (ch q)).map fun k => q ++ [k]).Nodup := by
      rw [List.nodup_iff_pairwise_ne, List.pairwise_map]
      exact (List.nodup_iff_pairwise_ne.mp List.nodup_range).imp fun h e => h (by simpa using e)
    have := nd_len nd2 (b := g.filter fun p => decide (p ≠ [] ∧ p.dropLast = q)) fun x hx => by
      obtain ⟨k, hk, rfl⟩ := List.mem_map.mp hx
      exact List.mem_filter.mpr ⟨h k (List.mem_range.mp hk), by simp⟩
    simpa [cnt] using this
/-- what may go next -/
structure Rdy (ch : List Nat → Nat) (g : List (List Nat)) (p : List Nat) : Prop where
  ne : p ≠ []
  no : p ∉ g
  kd : ∀ k, k < ch p → p ++ [k] ∈ g
theorem TT.mem {ch : List Nat → Nat} {nd : List Nat → Int} {N : Nat} (t : TT ch nd N) {p : List Nat} (v : Vp ch p) : p ∈ pre ch N [] := by
  have := pre_has (ch := ch) (t := p) (n := N) (p := []) (by simpa using v) (t.deep p v)
  simpa using this
theorem hv_len {ch : List Nat → Nat} {g : List (List Nat)} : (hv ch g).length ≤ g.length := by
  have : ∀ (g : List (List Nat)) (k : List (List Key × V)), (g.foldl (hvS ch) k).length ≤ k.length + g.length := fun g => by
    induction g with
    | nil => intro k; simp
    | cons p g ih =>
      intro k
      have h1 := ih (hvS ch k p)
      have h2 : (hvS ch k p).length ≤ k.length + 1 := by
        unfold hvS
        refine Nat.le_trans (length_putK ..) ?_
        split
        · omega
        · have := dropK_le k (pk p)
          omega
      show (g.foldl (hvS ch) (hvS ch k p)).length ≤ k.length + (g.length + 1)
      omega
  have := this g []
  simpa [hv] using this
/-- the law's own order of taking out and putting in, and the program's, come to the same -/
theorem put_drop {kvs : List (List Key × V)} {k j : List Key} {v : V} (ne : k ≠ j) : dropK (putK kvs k v) j = putK (dropK kvs j) k v := by
  have an : ((dropK kvs j).any fun kv => decide (kv.1 = k)) = kvs.any fun kv => decide (kv.1 = k) := by
    rw [valV_any, valV_any, valV_drop, if_neg ne]
  unfold putK
  rw [an]
  by_cases a : (kvs.any fun kv => decide (kv.1 = k)) = true
  · rw [if_pos a, if_pos a]
    unfold dropK
    clear a an
    induction kvs with
    | nil => rfl
    | cons x r ih =>
      rw [List.map_cons, List.filter_cons, List.filter_cons]
      by_cases e : x.1 = k
      · rw [if_pos e, if_pos (by simpa [e] using ne), if_pos (by simpa [e] using ne), List.map_cons, if_pos e, ih]
      · rw [if_neg e]
        by_cases f : x.1 = j
        · rw [if_neg (by simp [f]), if_neg (by simp [f]), ih]
        · rw [if_pos (by simpa using f), if_pos (by simpa using f), List.map_cons, if_neg e, ih]
  · rw [if_neg a, if_neg a]
    unfold dropK
    rw [List.filter_append, List.filter_cons, if_pos (by simpa using ne)]
    rfl
theorem hvS_prog {ch : List Nat → Nat} {kvs : List (List Key × V)} {p : List Nat} (ne : p ≠ []) : hvS ch kvs p = if ch p = 0 then putK kvs (pk p.dropLast) (.bl true) else dropK (putK kvs (pk p.dropLast) (.bl true)) (pk p) := by
  unfold hvS
  by_cases c : ch p = 0
  · rw [if_pos c, if_pos c]
  · rw [if_neg c, if_neg c, put_drop]
    intro z
    have := congrArg List.length (pk_inj z)
    rw [List.length_dropLast] at this
    have := List.length_pos_iff.mpr ne
    omega
theorem cut_last {ks : List Nat} : cutV (pth ks) none (some (-1)) = pth ks.dropLast := by
  unfold cutV
  rw [HT.sIx_none, List.drop_zero]
  have e : HT.sIx (pth ks).length (pth ks).length (some (-1)) = ks.length - 1 := by
    unfold HT.sIx
    simp
    try omega
  rw [e, Nat.sub_zero, pth, pth, ← List.map_take, List.dropLast_eq_take]
end TR

namespace K43
open PySem PySem.Spec PyProof.Rows L2 GM TM TR
theorem sqI {K : PySem.W.Frag} {H : Hp} {a : Addr} {ks : List Nat} (h : H a = some (.tup (pth ks))) : SqT K H a ((ksI ks).map V.int) := by
  rw [pth_ints] at h
  exact SqT.of h
theorem pkv {H : Hp} {a : Addr} {ks : List Nat} (h : H a = some (.tup (pth ks))) : H a = some (.tup ((pk ks).map kV)) := by rw [pk_kV]; exact h
/-- a step in the heap: its word, its path -/
def StV (H : Hp) (ch : List Nat → Nat) (s : Addr) (ks : List Nat) : Prop := ∃ (w : Str) (pa : Addr), H s = some (.tup [.str w, .ref pa]) ∧ H pa = some (.tup (pth ks)) ∧ (w = "put" ↔ ch ks = 0)
theorem StV.keep {H H' : Hp} {ch : List Nat → Nat} {s : Addr} {ks : List Nat} (h : StV H ch s ks) (t : Tk H H') : StV H' ch s ks := by
  obtain ⟨w, pa, h1, h2, h3⟩ := h
  exact ⟨w, pa, t _ _ h1, t _ _ h2, h3⟩
def spWidth : Sp := fun vs H Q _ => ∃ (v : V) (l : Addr) (ch : List Nat → Nat) (ss : List (Addr × List Nat)), vs = [v, .ref l] ∧ H l = some (.lst (ss.map fun s => .ref s.1)) ∧ (∀ s ∈ ss, StV H ch s.1 s.2) ∧ Lg ch (ss.map (·.2)) ∧ ss.length ≤ 100 ∧ ∀ H', Same H H' → Q (.int (wd ch (ss.map (·.2)))) H'
section
variable {P : Program} {w : World} {K : PySem.W.Frag} {mg : Str → Option Value} {base : Heap}
theorem scWidth : FnScope ["tree", "steps", "having", "width", "word", "path"] ["tree", "steps"] (defScope sWidth) := ⟨rfl, rfl, rfl, by decide +kernel, rfl, by decide +kernel, by decide +kernel⟩
theorem ok_width {f : Addr} {fd : FuncData} (F : Fun K "width_of" "width_of" sWidth f fd) (T : Txt mg) : FnOk P w K mg base CX0 1 f fd ["tree", "steps"] spWidth := by
  refine F.ok scWidth (fun vs H Q E h => ?_) (fun cdv A outer s H vs Q E hr h => ?_)
  · obtain ⟨_, _, _, _, rfl, _⟩ := h
    rfl
  · obtain ⟨tv, l, ch, ss, rfl, hl, hs, lg, l100, k⟩ := h
    refine ⟨_, (pss_cons (ps_set (i := 2) scWidth.nd rfl (Or.inl rfl) pe_dnewT)
      (pss_cons (ps_set (i := 3) scWidth.nd rfl (Or.inl rfl) pe_int)
      (pss_cons (ps_for PassesOwn.never rfl (pi_list (pv 1)) (pg_tup rfl (pgs_cons (pg_name (i := 4) scWidth.nd rfl (Or.inl rfl)) (pgs_cons (pg_name (i := 5) scWidth.nd rfl (Or.inl rfl)) pgs_nil)))
        (pss_cons (ps_dput (hu_of hr) (pv 2) (pe_slice sl_tupA (pv 5) po_none (po_some (pe_un un_neg pe_int))) pe_bl rfl)
        (pss_cons (ps_if (pt_cmpR op_ne (pv 4) pe_str (nomark _))
          (pss_one (ps_expr (pe_dpopT (hu_of hr) (pv 2) (pv 5) ⟨rfl, rfl, rfl, rfl⟩)))
          pss_nil)
        (pss_one (ps_set (i := 3) scWidth.nd rfl (Or.inl rfl) (pe_callB (call_max2 rfl) rfl T.max' boot_max (pa_cons (pv 3) (pa_cons (pe_callB call_lenD rfl T.len PySem.boot_len (pa_cons (pv 2) pa_nil)) pa_nil))))))))
      (pss_one (ps_ret (pv 3)))))), ?_⟩
    refine fun d nd => ?_
    have sd := Same.upd (o := .dT []) nd
    refine ⟨_, rfl, l, rfl, ⟨_, SqL.of (sd _ _ hl)⟩, ?_⟩
    refine for_listN (fun i σ H' => ∃ v4 v5 : Option V, σ = [some tv, some (.ref l), some (.ref d), some (.int (wd ch ((ss.map (·.2)).take i))), v4, v5] ∧ Same H H' ∧ H' d = some (.dT (hv ch ((ss.map (·.2)).take i)))) ⟨none, none, rfl, sd, upd_same⟩
      (fun i σ H' _ hh => by obtain ⟨_, _, _, sm, _⟩ := hh; exact SqL.of (sm _ _ hl)) ?_ ?_
    · intro i x σ H1 D hN hx hh
      obtain ⟨v4, v5, rfl, sm, hd⟩ := hh
      rw [List.getElem?_map] at hx
      obtain ⟨⟨st, ks⟩, hi, rfl⟩ := Option.map_eq_some_iff.mp hx
      obtain ⟨wo, pa, h1, h2, h3⟩ := (hs _ (List.mem_of_getElem? hi)).keep sm.tk
      have ei : (ss.map (·.2))[i]? = some ks := by rw [List.getElem?_map, hi]; rfl
      have et : (ss.map (·.2)).take (i + 1) = (ss.map (·.2)).take i ++ [ks] := by rw [List.take_add_one, ei]; rfl
      have lgi : Lg ch ((ss.map (·.2)).take i ++ [ks]) := et ▸ lg.pre (List.take_prefix ..)
      obtain ⟨vp, ne, no, kd⟩ := lgi ((ss.map (·.2)).take i) ks [] rfl
      refine ⟨st, _, rfl, SqT.of h1, rfl, _, _, rfl, _, _, rfl, rfl, ?_⟩
      refine ⟨_, rfl, _, rfl, _, rfl, _, rfl, pa, _, rfl, h2, fun pb H2 s2 hpb => ?_⟩
      rw [cut_last] at hpb
      have hd2 := s2 _ _ hd
      have hg := hv_len (ch := ch) (g := (ss.map (·.2)).take i)
      have gl : ((ss.map (·.2)).take i).length ≤ 100 := by rw [List.length_take, List.length_map]; omega
      refine ⟨d, _, rfl, DPut.t hd2 (pkv hpb) (small1000 (by omega)), ?_⟩
      generalize hk2 : putK (hv ch ((ss.map (·.2)).take i)) (pk ks.dropLast) (.bl true) = k2
      have s3 : Same H (upd H2 d (.dT k2)) := sm_own (sm.trans s2) nd
      have hd3 : upd H2 d (.dT k2) d = some (.dT k2) := upd_same
      have tk3 : Tk H1 (upd H2 d (.dT k2)) := s2.tk.trans fun b ys e => by rw [upd_ne (fun z => by rw [z, hd2] at e; cases e)]; exact e
      generalize upd H2 d (.dT k2) = H3 at s3 hd3 tk3 ⊢
      have fin : ∀ H4, Same H H4 → H4 d = some (.dT (hv ch ((ss.map (·.2)).take i ++ [ks]))) → D.nx [some tv, some (.ref l), some (.ref d), some (.int (if ((hv ch ((ss.map (·.2)).take i ++ [ks])).length : Int) > wd ch ((ss.map (·.2)).take i) then ((hv ch ((ss.map (·.2)).take i ++ [ks])).length : Int) else wd ch ((ss.map (·.2)).take i))), some (.str wo), some (.ref pa)] H4 := fun H4 s4 h4 => by
        have ew : wd ch ((ss.map (·.2)).take i ++ [ks]) = if ((hv ch ((ss.map (·.2)).take i ++ [ks])).length : Int) > wd ch ((ss.map (·.2)).take i) then ((hv ch ((ss.map (·.2)).take i ++ [ks])).length : Int) else wd ch ((ss.map (·.2)).take i) := by
          rw [wd_snoc]
          split <;> omega
        rw [← ew]
        exact hN _ _ ⟨_, _, by rw [et], s4, by rw [et]; exact h4⟩
      have eh := hv_snoc (ch := ch) (g := (ss.map (·.2)).take i) (p := ks)
      rw [hvS_prog ne, hk2] at eh
      refine ⟨_, rfl, rfl, _, rfl, ite2 (fun hp => ?_) (fun hp => ?_)⟩
      · have c0 : ch ks ≠ 0 := fun z => by
          have := h3.mpr z
          subst this
          simp at hp
        rw [if_neg c0] at eh
        have hv1 : valV k2 (pk ks) = some (.bl true) := by
          rw [← hk2, valV_put, if_neg, hv_at rfl lgi.init, if_pos ⟨⟨0, kd 0 (by omega)⟩, no⟩]
          intro z
          have := congrArg List.length (pk_inj z)
          rw [List.length_dropLast] at this
          have := List.length_pos_iff.mpr ne
          omega
        refine ⟨_, rfl, d, rfl, .inr ⟨_, .inl hd3⟩, _, rfl, k2, pk ks, pa, .bl true, hd3, rfl, pkv (tk3 _ _ h2), hv1, ?_⟩
        rw [← eh]
        refine ⟨_, rfl, _, rfl, .inl ⟨d, _, rfl, .inl upd_same, _, _, rfl, ?_⟩⟩
        exact fin _ (sm_own s3 nd) upd_same
      · have c0 : ch ks = 0 := by
          refine h3.mp ?_
          simpa using hp
        rw [if_pos c0] at eh
        rw [← eh] at hd3
        refine ⟨_, rfl, _, rfl, .inl ⟨d, _, rfl, .inl hd3, _, _, rfl, ?_⟩⟩
        exact fin _ s3 hd3
    · intro σ H1 hh
      obtain ⟨v4, v5, rfl, sm, hd⟩ := hh
      rw [List.length_map] at hd ⊢
      have e : (ss.map (·.2)).take ss.length = ss.map (·.2) := List.take_of_length_le (by simp)
      rw [e]
      exact ⟨_, rfl, k _ sm⟩
end
end K43

namespace TR
open PySem PySem.Spec PyProof.Rows L2 GM
/-! ### a tree told by its paths, each part with its need -/
def Hf (H : Hp) : Nat → V → (List Nat → Nat) → (List Nat → Int) → Prop
  | 0, _, _, _ => False
  | n + 1, v, ch, nd => (∃ s, Tr H (n + 1) v s (nd [])) ∧ ((∃ (p m : Addr) (x : Str), v = .ref p ∧ H p = some (.tup [.str "ware", .str x, .ref m]) ∧ ch [] = 0 ∧ nd [] = 0) ∨
    (∃ (p m q : Addr) (x : Str) (vs : List V), v = .ref p ∧ H p = some (.tup [.str "recipe", .str x, .ref m, .ref q]) ∧ H q = some (.tup vs) ∧ 1 ≤ vs.length ∧ vs.length < 64 ∧ ch [] = vs.length ∧
      Nd ((List.range vs.length).map fun k => nd [k]) (nd []) ∧ ∀ (k : Nat) c, vs[k]? = some c → Hf H n c (fun r => ch (k :: r)) (fun r => nd (k :: r))))
theorem Hf.hd {H : Hp} : ∀ {n : Nat} {v : V} {ch : List Nat → Nat} {nd : List Nat → Int}, Hf H n v ch nd → Hd H n v ch nd
  | 0, _, _, _, h => h
  | n + 1, v, ch, nd, h => by
    rcases h.2 with h | ⟨p, m, q, x, vs, e, hp, hq, l1, l2, c, hn, hc⟩
    · exact .inl h
    · exact .inr ⟨p, m, q, x, vs, e, hp, hq, l1, l2, c, hn, fun k c hk => (hc k c hk).hd⟩
theorem Hf.keep {H H' : Hp} (t : Tk H H') : ∀ {n : Nat} {v : V} {ch : List Nat → Nat} {nd : List Nat → Int}, Hf H n v ch nd → Hf H' n v ch nd
  | 0, _, _, _, h => h
  | n + 1, v, ch, nd, ⟨⟨s, tr⟩, h⟩ => by
    refine ⟨⟨s, tr.keep t⟩, ?_⟩
    rcases h with ⟨p, m, x, e, hp, r⟩ | ⟨p, m, q, x, vs, e, hp, hq, l1, l2, c, hn, hc⟩
    · exact .inl ⟨p, m, x, e, t _ _ hp, r⟩
    · exact .inr ⟨p, m, q, x, vs, e, t _ _ hp, t _ _ hq, l1, l2, c, hn, fun k c hk => (hc k c hk).keep t⟩
theorem Tr.hf {H : Hp} : ∀ {n : Nat} {v : V} {s : Nat} {d : Int}, Tr H n v s d → ∃ ch nd, Hf H n v ch nd ∧ nd [] = d ∧ (pre ch n []).length = s
  | 0, _, _, _, h => h.elim
  | n + 1, v, s, d, h => by
    have h' := h
    rcases h with ⟨p, m, x, e, hp, am, rfl, rfl⟩ | ⟨p, m, q, x, cs, e, hp, hq, l1, l2, hc, rfl, hd, am⟩
    · exact ⟨fun _ => 0, fun _ => 0, ⟨⟨_, h'⟩, .inl ⟨p, m, x, e, hp, rfl, rfl⟩⟩, rfl, rfl⟩
    · have ih : ∀ k : Nat, ∃ (chk : List Nat → Nat) (ndk : List Nat → Int), ∀ c, cs[k]? = some c → Hf H n c.1 chk ndk ∧ ndk [] = c.2.2 ∧ (pre chk n []).length = c.2.1 := fun k => by
        cases ek : cs[k]? with
        | none => exact ⟨fun _ => 0, fun _ => 0, fun c h => nomatch h⟩
        | some c =>
          obtain ⟨a, b, h1, h2, h3⟩ := Tr.hf (hc c (List.mem_of_getElem? ek))
          exact ⟨a, b, fun c' h => by cases h; exact ⟨h1, h2, h3⟩⟩
      have ih2 := fun k => Classical.choose_spec (ih k)
      have ih3 := fun k => Classical.choose_spec (ih2 k)
      generalize hf : (fun k => Classical.choose (ih k)) = chf at ih2 ih3
      generalize hg : (fun k => Classical.choose (ih2 k)) = ndf at ih3
      have ih4 : ∀ (k : Nat) c, cs[k]? = some c → Hf H n c.1 (chf k) (ndf k) ∧ ndf k [] = c.2.2 ∧ (pre (chf k) n []).length = c.2.1 := fun k => by
        have := ih3 k
        rw [← hg]
        rw [← hf]
        exact this
      refine ⟨fun r => match r with | [] => cs.length | k :: r => chf k r, fun r => match r with | [] => d | k :: r => ndf k r, ⟨⟨_, h'⟩, .inr ⟨p, m, q, x, cs.map (·.1), e, hp, hq, by simpa using l1, by simpa using l2, by simp, ?_, ?_⟩⟩, rfl, ?_⟩
      · have e : ((List.range (cs.map (·.1)).length).map fun k => ndf k []) = cs.map (·.2.2) := by
          apply List.ext_getElem?
          intro i
          rw [List.getElem?_map, List.getElem?_map, List.length_map]
          cases ek : cs[i]? with
          | none =>
            rw [List.getElem?_eq_none (by simpa using List.getElem?_eq_none_iff.mp ek)]
            rfl
          | some c =>
            have hl := (List.getElem?_eq_some_iff.mp ek).1
            rw [List.getElem?_eq_getElem (by simpa using hl)]
            simp
            exact (ih4 i c ek).2.1
        show Nd ((List.range (cs.map (·.1)).length).map fun k => ndf k []) d
        rw [e]
        exact hd
      · intro k c hk
        rw [List.getElem?_map] at hk
        cases ek : cs[k]? with
        | none => rw [ek] at hk; cases hk
        | some c' =>
          rw [ek] at hk
          cases hk
          exact (ih4 k c' ek).1
      · generalize ec : (fun r : List Nat => match r with | [] => cs.length | k :: r => chf k r) = ch
        have e0 : ch [] = cs.length := by rw [← ec]
        have e1 : ∀ k, (fun r => ch (k :: r)) = chf k := fun k => by rw [← ec]
        show ([] :: (List.range (ch [])).flatMap fun k => pre ch n [k]).length = _
        rw [List.length_cons, flat_len, e0]
        have e : ((List.range cs.length).map fun k => (pre ch n [k]).length) = cs.map (·.2.1) := by
          apply List.ext_getElem?
          intro i
          rw [List.getElem?_map, List.getElem?_map]
          cases ek : cs[i]? with
          | none =>
            rw [List.getElem?_eq_none (by simpa using List.getElem?_eq_none_iff.mp ek)]
            rfl
          | some c =>
            have hl := (List.getElem?_eq_some_iff.mp ek).1
            rw [List.getElem?_eq_getElem (by simpa using hl)]
            simp
            rw [pre_shift, List.length_map, e1]
            exact (ih4 i c ek).2.2
        rw [e]
        unfold szs
        omega
theorem Hf.at {H : Hp} : ∀ {p : List Nat} {n : Nat} {v : V} {ch : List Nat → Nat} {nd : List Nat → Int}, Hf H n v ch nd → Vp ch p → ∃ m u, n = p.length + m ∧ AtP H v p u ∧ Hf H m u (shf p ch) (shf p nd)
  | [], n, v, ch, nd, h, _ => ⟨n, v, by simp, rfl, h⟩
  | k :: r, 0, v, ch, nd, h, _ => h.elim
  | k :: r, n + 1, v, ch, nd, h, ⟨kl, vr⟩ => by
    rcases h.2 with ⟨p, m, x, e, hp, c0, _⟩ | ⟨p, m, q, x, vs, e, hp, hq, l1, l2, c, hn, hc⟩
    · omega
    · obtain ⟨c', hk⟩ : ∃ c', vs[k]? = some c' := ⟨_, List.getElem?_eq_getElem (by omega)⟩
      obtain ⟨m', u, en, ap, hu⟩ := (hc k c' hk).at vr
      exact ⟨m', u, by rw [List.length_cons]; omega, ⟨p, m, q, x, vs, c', e, hp, hq, hk, ap⟩, hu⟩
/-! ### needs -/
theorem Nd.fst {ds : List Int} {d x : Int} (h : Nd ds d) (m : x ∈ ds) : x ≤ d := by
  obtain ⟨f, s, ⟨r, p, sf, hr⟩, rfl⟩ := h
  have : x ∈ f :: s :: r := p.mem_iff.mp (List.mem_append_left _ m)
  rcases List.mem_cons.mp this with h | h
  · omega
  · rcases List.mem_cons.mp h with h | h
    · omega
    · have := hr x h
      omega
theorem count2 {P : Int → Bool} : ∀ {l : List Int} {i j : Nat} {x y : Int}, i < j → l[i]? = some x → l[j]? = some y → P x = true → P y = true → 2 ≤ l.countP P
  | [], _, _, _, _, _, h, _, _, _ => by simp at h
  | a :: l, 0, j + 1, x, y, _, h1, h2, p1, p2 => by
    simp at h1
    subst h1
    rw [List.countP_cons, if_pos p1]
    have : y ∈ l := List.mem_of_getElem? (by simpa using h2)
    have := List.countP_pos_iff.mpr ⟨y, this, p2⟩
    omega
  | a :: l, i + 1, j + 1, x, y, hij, h1, h2, p1, p2 => by
    have := count2 (l := l) (i := i) (j := j) (by omega) (by simpa using h1) (by simpa using h2) p1 p2
    rw [List.countP_cons]
    omega
  | _, _, 0, _, _, hij, _, _, _, _ => absurd hij (by omega)
theorem Nd.snd {ds : List Int} {d x y : Int} {i j : Nat} (h : Nd ds d) (ij : i ≠ j) (hi : ds[i]? = some x) (hj : ds[j]? = some y) (xy : y ≤ x) : y + 1 ≤ d := by
  obtain ⟨f, s, ⟨r, p, sf, hr⟩, rfl⟩ := h
  by_cases c : s < y
  · exfalso
    have h2 : 2 ≤ ds.countP fun z => decide (s < z) := by
      rcases Nat.lt_or_ge i j with h | h
      · exact count2 h hi hj (by simp; omega) (by simp; omega)
      · exact count2 (show j < i by omega) hj hi (by simp; omega) (by simp; omega)
    have h3 : (ds ++ [0, 0]).countP (fun z => decide (s < z)) ≤ 1 := by
      rw [p.countP_eq, List.countP_cons, List.countP_cons]
      have z : r.countP (fun z => decide (s < z)) = 0 := by
        rw [List.countP_eq_zero]
        intro x hx
        have := hr x hx
        simp
        omega
      rw [z]
      have : decide (s < s) = false := by simp
      rw [this]
      by_cases sf' : s < f <;> simp [sf']
    rw [List.countP_append] at h3
    omega
  · omega
/-! ### the order in which the parts of a recipe are made -/
inductive Rp (R : Nat → List (Str × List Nat) → Prop) (p : List Nat) : List Nat → List (Str × List Nat) → Prop where
  | nil : Rp R p [] []
  | snoc {os : List Nat} {g : List (Str × List Nat)} {k : Nat} {g' : List (Str × List Nat)} : Rp R p os g → R k g' → Rp R p (os ++ [k]) (g ++ g' ++ [((if os = [] then "keep" else "join" : Str), p ++ [k])])
def recs (ch : List Nat → Nat) (p : List Nat) : List Nat := (List.range (ch p)).filter fun k => decide (ch (p ++ [k]) ≠ 0)
def wars (ch : List Nat → Nat) (p : List Nat) : List Nat := (List.range (ch p)).filter fun k => decide (ch (p ++ [k]) = 0)
def ndO (nd : List Nat → Int) (p : List Nat) (i j : Nat) : Prop := nd (p ++ [j]) < nd (p ++ [i]) ∨ (nd (p ++ [j]) = nd (p ++ [i]) ∧ i < j)
def Pl (ch : List Nat → Nat) (nd : List Nat → Int) : Nat → List Nat → List (Str × List Nat) → Prop
  | 0, _, _ => False
  | n + 1, p, g => ∃ os r, os.Perm (recs ch p) ∧ os.Pairwise (ndO nd p) ∧ Rp (fun k g' => Pl ch nd n (p ++ [k]) g') p os r ∧ g = r ++ (wars ch p).map fun k => (("put" : Str), p ++ [k])
theorem pw_uniq {α : Type} {R : α → α → Prop} (asy : ∀ a b, R a b → R b a → False) : ∀ {l m : List α}, l.Perm m → l.Pairwise R → m.Pairwise R → l = m
  | [], m, p, _, _ => (List.nil_perm.mp p).symm
  | a :: l, [], p, _, _ => absurd (List.perm_nil.mp p) (by simp)
  | a :: l, b :: m, p, h1, h2 => by
    rw [List.pairwise_cons] at h1 h2
    have e : a = b := by
      have ma : a ∈ b :: m := p.mem_iff.mp (List.mem_cons_self ..)
      have mb : b ∈ a :: l := p.mem_iff.mpr (List.mem_cons_self ..)
      rcases List.mem_cons.mp ma with e | ma
      · exact e
      · rcases List.mem_cons.mp mb with e | mb
        · exact e.symm
        · exact (asy a b (h1.1 b mb) (h2.1 a ma)).elim
    subst e
    rw [pw_uniq asy ((List.perm_cons a).mp p) h1.2 h2.2]
theorem Rp.uniq {R : Nat → List (Str × List Nat) → Prop} {p : List Nat} (hR : ∀ k a b, R k a → R k b → a = b) {os : List Nat} {g : List (Str × List Nat)} (h : Rp R p os g) : ∀ {g'}, Rp R p os g' → g = g' := by
  induction h with
  | nil =>
    intro g' h'
    generalize e : ([] : List Nat) = os at h'
    cases h' with
    | nil => rfl
    | snoc _ _ => simp at e
  | @snoc os g k g1 _ hk ih =>
    intro g' h'
    generalize e : os ++ [k] = os' at h'
    cases h' with
    | nil => simp at e
    | @snoc os2 g2 k2 g3 h2 hk2 =>
      have e1 := List.append_inj_left' e rfl
      have e2 : k = k2 := by simpa using List.append_inj_right' e rfl
      subst e1 e2
      rw [ih h2, hR k _ _ hk hk2]
theorem Pl.uniq {ch : List Nat → Nat} {nd : List Nat → Int} : ∀ {n : Nat} {p : List Nat} {g g' : List (Str × List Nat)}, Pl ch nd n p g → Pl ch nd n p g' → g = g'
  | 0, _, _, _, h, _ => h.elim
  | n + 1, p, g, g', ⟨os, r, pm, pw, rp, e⟩, ⟨os', r', pm', pw', rp', e'⟩ => by
    have eo : os = os' := pw_uniq (fun a b h1 h2 => by unfold ndO at h1 h2; omega) (pm.trans pm'.symm) pw pw'
    subst eo
    have er : r = r' := Rp.uniq (R := fun k g' => Pl ch nd n (p ++ [k]) g') (fun k a b h1 h2 => Pl.uniq (n := n) (p := p ++ [k]) h1 h2) rp rp'
    rw [e, e', er]
/-! ### such steps keep the rules, and are narrow enough -/
theorem hv_nd {ch : List Nat → Nat} (g : List (List Nat)) : ((hv ch g).map (·.1)).Nodup := by
  have put : ∀ {kvs : List (List Key × V)} {k : List Key} {v : V}, (kvs.map (·.1)).Nodup → ((putK kvs k v).map (·.1)).Nodup := fun {kvs k v} h => by
    unfold putK
    split
    · have e : (kvs.map fun kv => if kv.1 = k then (kv.1, v) else kv).map (·.1) = kvs.map (·.1) := by
        rw [List.map_map]
        apply List.map_congr_left
        intro kv _
        show (if kv.1 = k then (kv.1, v) else kv).1 = kv.1
        split <;> rfl
      rw [e]
      exact h
    · rename_i hn
      rw [List.map_append, List.nodup_append]
      refine ⟨h, by simp, fun a ha b hb e => ?_⟩
      have : b = k := by simpa using hb
      subst this e
      obtain ⟨kv, hkv, rfl⟩ := List.mem_map.mp ha
      exact hn (List.any_eq_true.mpr ⟨kv, hkv, by simp⟩)
  have all : ∀ (g : List (List Nat)) (k : List (List Key × V)), (k.map (·.1)).Nodup → ((g.foldl (hvS ch) k).map (·.1)).Nodup := fun g => by
    induction g with
    | nil => intro k h; exact h
    | cons p g ih =>
      intro k h
      refine ih _ ?_
      unfold hvS
      refine put ?_
      split
      · exact h
      · exact h.sublist (List.Sublist.map _ List.filter_sublist)
  exact all g [] List.nodup_nil
theorem hv_list {ch : List Nat → Nat} (g : List (List Nat)) : ∃ qs : List (List Nat), (hv ch g).map (·.1) = qs.map pk := by
  have : ∀ l : List (List Key × V), (∀ kv ∈ l, ∃ q, kv.1 = pk q) → ∃ qs : List (List Nat), l.map (·.1) = qs.map pk := fun l => by
    induction l with
    | nil => intro _; exact ⟨[], rfl⟩
    | cons a l ih =>
      intro h
      obtain ⟨qs, e⟩ := ih fun kv hk => h kv (List.mem_cons_of_mem _ hk)
      obtain ⟨q, e2⟩ := h a (List.mem_cons_self ..)
      exact ⟨q :: qs, by rw [List.map_cons, List.map_cons, e, e2]⟩
  exact this _ (hv_keys rfl)
theorem hv_mem {ch : List Nat → Nat} {g : List (List Nat)} (l : Lg ch g) {q : List Nat} : pk q ∈ (hv ch g).map (·.1) ↔ (∃ k, q ++ [k] ∈ g) ∧ q ∉ g := by
  have at' := hv_at rfl l q
  constructor
  · intro h
    obtain ⟨kv, hk, e⟩ := List.mem_map.mp h
    have := mem_valV hk
    rw [e, at'] at this
    by_cases z : (∃ k, q ++ [k] ∈ g) ∧ q ∉ g
    · exact z
    · rw [if_neg z] at this; cases this
  · intro h
    rw [if_pos h] at at'
    obtain ⟨kv, hk, e⟩ := valV_mem at'
    exact List.mem_map.mpr ⟨kv, hk, e⟩
theorem hv_count {ch : List Nat → Nat} {g : List (List Nat)} (l : Lg ch g) {ks : List (List Nat)} (h : ∀ q, (∃ k, q ++ [k] ∈ g) → q ∉ g → q ∈ ks) : (hv ch g).length ≤ ks.length := by
  have := nd_len (hv_nd (ch := ch) g) (b := ks.map pk) fun x hx => by
    obtain ⟨kv, hk, rfl⟩ := List.mem_map.mp hx
    obtain ⟨q, e⟩ := hv_keys rfl kv hk
    have hm : pk q ∈ (hv ch g).map (·.1) := e ▸ hx
    have := (hv_mem l).mp hm
    rw [e]
    exact List.mem_map_of_mem (h q this.1 this.2)
  rw [List.length_map, List.length_map] at this
  exact this
def WOk (ch : List Nat → Nat) (a : List (List Nat)) (w : Str) (q : List Nat) : Prop := (ch q = 0 → w = "put") ∧ (ch q ≠ 0 → ((∃ k, q.dropLast ++ [k] ∈ a) → w = "join") ∧ ((¬ ∃ k, q.dropLast ++ [k] ∈ a) → w = "keep"))
theorem Lg.app {ch : List Nat → Nat} : ∀ {n : Nat} {a b : List (List Nat)}, b.length = n → Lg ch a → Lg ch b → (∀ q ∈ b, q ∉ a) → Lg ch (a ++ b) := by
  intro n
  induction n with
  | zero =>
    intro a b e la _ _
    have : b = [] := List.length_eq_zero_iff.mp e
    subst this
    rwa [List.append_nil]
  | succ n ih =>
    intro a b e la lb h
    cases er : b.reverse with
    | nil =>
      have : b = [] := List.reverse_eq_nil_iff.mp er
      subst this
      simp at e
    | cons x i =>
      have eb : b = i.reverse ++ [x] := by have := congrArg List.reverse er; simpa using this
      generalize i.reverse = b' at eb
      subst eb
      obtain ⟨v, ne, no, kd⟩ := lb b' x [] rfl
      rw [← List.append_assoc]
      refine (ih (by simpa using e) la lb.init fun q hq => h q (List.mem_append_left _ hq)).snoc v ne (fun m => ?_) fun k hk => List.mem_append_right _ (kd k hk)
      rcases List.mem_append.mp m with m | m
      · exact h x (by simp) m
      · exact no m
/-- what is told of a list of steps beneath p -/
structure PlOk (ch : List Nat → Nat) (d : Int) (g : List (Str × List Nat)) (Mm : List Nat → Prop) : Prop where
  mem : ∀ q, q ∈ g.map (·.2) ↔ Mm q
  lg : Lg ch (g.map (·.2))
  nar : ∀ x, x <+: g.map (·.2) → ((hv ch x).length : Int) ≤ d
  wo : ∀ a w q b, g = a ++ (w, q) :: b → WOk ch (a.map (·.2)) w q
theorem snoc_split {α : Type} {g a b : List α} {x y : α} (e : g ++ [x] = a ++ y :: b) : (a = g ∧ y = x ∧ b = []) ∨ ∃ b', b = b' ++ [x] ∧ g = a ++ y :: b' := by
  cases er : b.reverse with
  | nil =>
    have : b = [] := List.reverse_eq_nil_iff.mp er
    subst this
    have e1 := List.append_inj_left' e rfl
    have e2 := List.append_inj_right' e rfl
    exact .inl ⟨e1.symm, by simpa using e2.symm, rfl⟩
  | cons z i =>
    have eb : b = i.reverse ++ [z] := by have := congrArg List.reverse er; simpa using this
    subst eb
    have e' : g ++ [x] = (a ++ y :: i.reverse) ++ [z] := by rw [e]; simp
    have e1 := List.append_inj_left' e' rfl
    have e2 : x = z := by simpa using List.append_inj_right' e' rfl
    exact .inr ⟨i.reverse, by rw [e2], e1⟩
theorem pre_app {α : Type} {x a b : List α} (h : x <+: a ++ b) : x <+: a ∨ ∃ y, x = a ++ y ∧ y <+: b := by
  rcases Nat.le_total x.length a.length with l | l
  · exact .inl (List.prefix_of_prefix_length_le h (List.prefix_append a b) l)
  · obtain ⟨y, rfl⟩ := List.prefix_of_prefix_length_le (List.prefix_append a b) h l
    exact .inr ⟨y, rfl, (List.prefix_append_right_inj a).mp h⟩
theorem Vp.pfx {ch : List Nat → Nat} {p : List Nat} : ∀ {t : List Nat}, Vp ch (p ++ t) → Vp ch p := by
  intro t
  induction t generalizing p with
  | nil => intro h; simpa using h
  | cons a t ih =>
    intro h
    have e : p ++ a :: t = (p ++ [a]) ++ t := by simp
    rw [e] at h
    exact (Vp.app.mp (ih h)).1
theorem pfx_last {p q : List Nat} {k j : Nat} (h : p ++ [k] <+: q ++ [j]) : (q = p ∧ j = k) ∨ p ++ [k] <+: q := by
  obtain ⟨t, ht⟩ := h
  cases er : t.reverse with
  | nil =>
    have : t = [] := List.reverse_eq_nil_iff.mp er
    subst this
    rw [List.append_nil] at ht
    have e1 := List.append_inj_left' ht rfl
    have e2 : k = j := by simpa using List.append_inj_right' ht rfl
    exact .inl ⟨e1.symm, e2.symm⟩
  | cons z i =>
    have et : t = i.reverse ++ [z] := by have := congrArg List.reverse er; simpa using this
    rw [et, ← List.append_assoc] at ht
    exact .inr ⟨i.reverse, List.append_inj_left' ht rfl⟩
theorem drop_ne {q : List Nat} (h : q ≠ []) : q = q.dropLast ++ [q.getLast h] := (List.dropLast_concat_getLast h).symm
section
variable {ch : List Nat → Nat} {nd : List Nat → Int} {N : Nat}
theorem nd_at {p : List Nat} {k : Nat} (h : k < ch p) : ((List.range (ch p)).map fun k => nd (p ++ [k]))[k]? = some (nd (p ++ [k])) := by
  rw [List.getElem?_map, List.getElem?_eq_getElem (by simpa using h)]
  simp
theorem rp_ok (t : TT ch nd N) {n : Nat} {p : List Nat} (vp : Vp ch p) (c1 : 1 ≤ ch p) (ih : ∀ k g, k < ch p → ch (p ++ [k]) ≠ 0 → Pl ch nd n (p ++ [k]) g → PlOk ch (nd (p ++ [k])) g fun q => Vp ch q ∧ p ++ [k] <+: q ∧ q ≠ p ++ [k])
    {os : List Nat} {g : List (Str × List Nat)} (h : Rp (fun k g' => Pl ch nd n (p ++ [k]) g') p os g) : (∀ k ∈ os, k < ch p ∧ ch (p ++ [k]) ≠ 0) → os.Pairwise (ndO nd p) → PlOk ch (nd p) g fun q => Vp ch q ∧ ∃ k ∈ os, p ++ [k] <+: q := by
  have need := t.need p vp c1
  have d1 := need.pos
  induction h with
  | nil =>
    intro _ _
    refine ⟨fun q => by simp, Lg.nil, fun x hx => ?_, fun a w q b e => by simp at e⟩
    have : x = [] := by simpa using hx
    subst this
    show ((0 : Nat) : Int) ≤ _
    omega
  | @snoc os g k g' hrp hk ihr =>
    intro hin hpw
    rw [List.pairwise_append] at hpw
    obtain ⟨pw1, _, pw2⟩ := hpw
    have ok := ihr (fun j hj => hin j (List.mem_append_left _ hj)) pw1
    obtain ⟨kl, kc⟩ := hin k (by simp)
    have ok' := ih k g' kl kc hk
    have vk : Vp ch (p ++ [k]) := Vp.app.mpr ⟨vp, kl⟩
    have kos : k ∉ os := fun m => by
      have := pw2 k m k (by simp)
      unfold ndO at this
      omega
    -- nothing beneath k lies in g
    have apart : ∀ q, p ++ [k] <+: q → q ∉ g.map (·.2) := fun q hq m => by
      obtain ⟨_, j, hj, hjq⟩ := (ok.mem q).mp m
      exact kos (pfx_snoc hjq hq ▸ hj)
    have lg1 : Lg ch (g.map (·.2) ++ g'.map (·.2)) := Lg.app rfl ok.lg ok'.lg fun q hq => apart q ((ok'.mem q).mp hq).2.1
    have kids : ∀ j, j < ch (p ++ [k]) → p ++ [k] ++ [j] ∈ g'.map (·.2) := fun j hj => (ok'.mem _).mpr ⟨Vp.app.mpr ⟨vk, hj⟩, List.prefix_append .., by simp⟩
    have knot : p ++ [k] ∉ g.map (·.2) ++ g'.map (·.2) := fun m => by
      rcases List.mem_append.mp m with m | m
      · exact apart _ List.prefix_rfl m
      · exact ((ok'.mem _).mp m).2.2 rfl
    have lg2 : Lg ch (g.map (·.2) ++ g'.map (·.2) ++ [p ++ [k]]) := lg1.snoc vk (by simp) knot fun j hj => List.mem_append_right _ (kids j hj)
    have em : (g ++ g' ++ [((if os = [] then "keep" else "join" : Str), p ++ [k])]).map (·.2) = g.map (·.2) ++ g'.map (·.2) ++ [p ++ [k]] := by simp
    have mem : ∀ q, q ∈ g.map (·.2) ++ g'.map (·.2) ++ [p ++ [k]] ↔ Vp ch q ∧ ∃ j ∈ os ++ [k], p ++ [j] <+: q := fun q => by
      rw [List.mem_append, List.mem_append, ok.mem, ok'.mem, List.mem_singleton]
      constructor
      · rintro ((⟨v, j, hj, hq⟩ | ⟨v, hq, _⟩) | rfl)
        · exact ⟨v, j, List.mem_append_left _ hj, hq⟩
        · exact ⟨v, k, by simp, hq⟩
        · exact ⟨vk, k, by simp, List.prefix_rfl⟩
      · rintro ⟨v, j, hj, hq⟩
        rcases List.mem_append.mp hj with hj | hj
        · exact .inl (.inl ⟨v, j, hj, hq⟩)
        · rw [List.mem_singleton.mp hj] at hq
          by_cases e : q = p ++ [k]
          · exact .inr e
          · exact .inl (.inr ⟨v, hq, e⟩)
    -- what has come from g is p alone
    have up : ∀ {y q}, (∃ j, q ++ [j] ∈ g.map (·.2)) → q ∉ g.map (·.2) ++ y → q = p ∧ os ≠ [] := fun {y q} h hn => by
      obtain ⟨j, hj⟩ := h
      obtain ⟨v, i, hi, hq⟩ := (ok.mem _).mp hj
      rcases pfx_last hq with ⟨e, _⟩ | hq'
      · exact ⟨e, fun z => by rw [z] at hi; exact nomatch hi⟩
      · exact absurd (List.mem_append_left _ ((ok.mem q).mpr ⟨(Vp.app.mp v).1, i, hi, hq'⟩)) hn
    have nk : (if os = [] then nd (p ++ [k]) else nd (p ++ [k]) + 1) ≤ nd p := by
      split
      · exact need.fst (List.mem_of_getElem? (nd_at kl))
      · rename_i ne
        obtain ⟨i, hi⟩ := List.exists_mem_of_ne_nil os ne
        have o := pw2 i hi k (by simp)
        have il := (hin i (List.mem_append_left _ hi)).1
        refine need.snd (i := i) (j := k) (fun e => kos (e ▸ hi)) (nd_at il) (nd_at kl) ?_
        unfold ndO at o
        omega
    refine ⟨fun q => by rw [em]; exact mem q, by rw [em]; exact lg2, fun x hx => ?_, fun a w q b e => ?_⟩
    · rw [em] at hx
      rcases pre_app hx with hx | ⟨z, rfl, hz⟩
      · rcases pre_app hx with hx | ⟨y, rfl, hy⟩
        · exact ok.nar x hx
        · obtain ⟨qs, eqs⟩ := hv_list (ch := ch) y
          have ly : Lg ch y := ok'.lg.pre hy
          have lgy : Lg ch (g.map (·.2) ++ y) := lg1.pre ((List.prefix_append_right_inj _).mpr hy)
          have b1 := ok'.nar y hy
          have ql : qs.length = (hv ch y).length := by have := congrArg List.length eqs; simpa using this.symm
          have inq : ∀ q, (∃ j, q ++ [j] ∈ y) → q ∉ g.map (·.2) ++ y → q ∈ qs := fun q h1 h2 => by
            have := (hv_mem ly).mpr ⟨h1, fun m => h2 (List.mem_append_right _ m)⟩
            rw [eqs] at this
            obtain ⟨q', hq', e⟩ := List.mem_map.mp this
            exact pk_inj e ▸ hq'
          by_cases ne : os = []
          · rw [if_pos ne] at nk
            have := hv_count lgy (ks := qs) fun q h1 h2 => by
              obtain ⟨j, hj⟩ := h1
              rcases List.mem_append.mp hj with hj | hj
              · exact absurd ne (up ⟨j, hj⟩ h2).2
              · exact inq q ⟨j, hj⟩ h2
            omega
          · rw [if_neg ne] at nk
            have := hv_count lgy (ks := p :: qs) fun q h1 h2 => by
              obtain ⟨j, hj⟩ := h1
              rcases List.mem_append.mp hj with hj | hj
              · rw [(up ⟨j, hj⟩ h2).1]
                exact List.mem_cons_self ..
              · exact List.mem_cons_of_mem _ (inq q ⟨j, hj⟩ h2)
            rw [List.length_cons] at this
            omega
      · have lgz := lg2.pre hx
        have ez : z = [] ∨ z = [p ++ [k]] := by
          cases z with
          | nil => exact .inl rfl
          | cons u z =>
            have := List.cons_prefix_cons.mp hz
            have : z = [] := by simpa using this.2
            exact .inr (by rw [this, ‹u = p ++ [k] ∧ _›.1])
        have one : ∀ {z}, z = [p ++ [k]] → ((hv ch (g.map (·.2) ++ g'.map (·.2) ++ z)).length : Int) ≤ nd p := fun {z} e => by
          subst e
          have := hv_count lg2 (ks := [p]) fun q h1 h2 => by
            obtain ⟨j, hj⟩ := h1
            obtain ⟨v, i, hi, hq⟩ := (mem _).mp hj
            rcases pfx_last hq with ⟨e, _⟩ | hq'
            · rw [e]; simp
            · exact absurd ((mem q).mpr ⟨(Vp.app.mp v).1, i, hi, hq'⟩) h2
          have e1 : [p].length = 1 := rfl
          omega
        rcases ez with rfl | rfl
        · rw [List.append_nil] at lgz ⊢
          -- all beneath k is made
          obtain ⟨qs, eqs⟩ := hv_list (ch := ch) (g'.map (·.2))
          have b1 := ok'.nar _ List.prefix_rfl
          have ql : qs.length = (hv ch (g'.map (·.2))).length := by have := congrArg List.length eqs; simpa using this.symm
          have inq : ∀ q, (∃ j, q ++ [j] ∈ g'.map (·.2)) → q ∉ g.map (·.2) ++ g'.map (·.2) → q ∈ qs := fun q h1 h2 => by
            have := (hv_mem ok'.lg).mpr ⟨h1, fun m => h2 (List.mem_append_right _ m)⟩
            rw [eqs] at this
            obtain ⟨q', hq', e⟩ := List.mem_map.mp this
            exact pk_inj e ▸ hq'
          by_cases ne : os = []
          · rw [if_pos ne] at nk
            have := hv_count lgz (ks := qs) fun q h1 h2 => by
              obtain ⟨j, hj⟩ := h1
              rcases List.mem_append.mp hj with hj | hj
              · exact absurd ne (up ⟨j, hj⟩ h2).2
              · exact inq q ⟨j, hj⟩ h2
            omega
          · rw [if_neg ne] at nk
            have := hv_count lgz (ks := p :: qs) fun q h1 h2 => by
              obtain ⟨j, hj⟩ := h1
              rcases List.mem_append.mp hj with hj | hj
              · rw [(up ⟨j, hj⟩ h2).1]
                exact List.mem_cons_self ..
              · exact List.mem_cons_of_mem _ (inq q ⟨j, hj⟩ h2)
            rw [List.length_cons] at this
            omega
        · exact one rfl
    · rcases snoc_split e with ⟨rfl, e2, rfl⟩ | ⟨b', rfl, e2⟩
      · cases e2
        refine ⟨fun z => absurd z kc, fun _ => ⟨fun ⟨j, hj⟩ => ?_, fun hn => ?_⟩⟩
        · rw [List.dropLast_concat, List.map_append] at hj
          rcases List.mem_append.mp hj with hj | hj
          · obtain ⟨_, i, hi, _⟩ := (ok.mem _).mp hj
            rw [if_neg (fun z => by rw [z] at hi; exact nomatch hi)]
          · have := ((ok'.mem _).mp hj).2.1
            have e3 := ((ok'.mem _).mp hj).2.2
            rcases pfx_last this with ⟨_, e4⟩ | h
            · exact absurd (by rw [e4]) e3
            · exact (pfx_no h).elim
        · rw [if_pos]
          by_cases z : os = []
          · exact z
          · exfalso
            obtain ⟨i, hi⟩ := List.exists_mem_of_ne_nil os z
            refine hn ⟨i, ?_⟩
            rw [List.dropLast_concat, List.map_append]
            have il := (hin i (List.mem_append_left _ hi)).1
            exact List.mem_append_left _ ((ok.mem _).mpr ⟨Vp.app.mpr ⟨vp, il⟩, i, hi, List.prefix_rfl⟩)
      · rcases List.append_eq_append_iff.mp e2 with ⟨as, e3, e4⟩ | ⟨bs, e3, e4⟩
        · -- within g'
          subst e3
          have w := ok'.wo as w q b' e4
          have qm : q ∈ g'.map (·.2) := by rw [e4]; simp
          have hq := (ok'.mem q).mp qm
          have qne : q ≠ [] := ok'.lg.mem qm |>.2.1
          have sib : (∃ j, q.dropLast ++ [j] ∈ (g ++ as).map (·.2)) ↔ ∃ j, q.dropLast ++ [j] ∈ as.map (·.2) := by
            constructor
            · rintro ⟨j, hj⟩
              rw [List.map_append] at hj
              rcases List.mem_append.mp hj with hj | hj
              · exfalso
                refine apart _ ?_ hj
                have e5 := drop_ne qne
                have := hq.2.1
                rw [e5] at this
                rcases pfx_last this with ⟨e6, e7⟩ | h
                · exact absurd (by rw [e5, e6, e7]) hq.2.2
                · exact h.trans (List.prefix_append ..)
              · exact ⟨j, hj⟩
            · rintro ⟨j, hj⟩
              exact ⟨j, by rw [List.map_append]; exact List.mem_append_right _ hj⟩
          unfold WOk at w ⊢
          rw [sib]
          exact w
        · cases bs with
          | nil =>
            rw [List.append_nil] at e3
            subst e3
            have e4' : g' = [] ++ (w, q) :: b' := by simpa using e4.symm
            have w' := ok'.wo [] w q b' e4'
            have qm : q ∈ g'.map (·.2) := by rw [e4']; simp
            have hq := (ok'.mem q).mp qm
            have qne : q ≠ [] := ok'.lg.mem qm |>.2.1
            have sib : (∃ j, q.dropLast ++ [j] ∈ g.map (·.2)) ↔ ∃ j, q.dropLast ++ [j] ∈ ([] : List (Str × List Nat)).map (·.2) := by
              constructor
              · rintro ⟨j, hj⟩
                exfalso
                refine apart _ ?_ hj
                have e5 := drop_ne qne
                have := hq.2.1
                rw [e5] at this
                rcases pfx_last this with ⟨e6, e7⟩ | h
                · exact absurd (by rw [e5, e6, e7]) hq.2.2
                · exact h.trans (List.prefix_append ..)
              · rintro ⟨j, hj⟩
                simp at hj
            unfold WOk at w' ⊢
            rw [sib]
            exact w'
          | cons y ys =>
            rw [List.cons_append] at e4
            injection e4 with e5 e6
            subst e5
            exact ok.wo a w q ys e3
theorem pl_ok (t : TT ch nd N) : ∀ {n : Nat} {p : List Nat} {g : List (Str × List Nat)}, Pl ch nd n p g → Vp ch p → 1 ≤ ch p → PlOk ch (nd p) g fun q => Vp ch q ∧ p <+: q ∧ q ≠ p
  | 0, _, _, h, _, _ => h.elim
  | n + 1, p, g, ⟨os, r, pm, pw, rp, e⟩, vp, c1 => by
    have d1 := (t.need p vp c1).pos
    have hin : ∀ k ∈ os, k < ch p ∧ ch (p ++ [k]) ≠ 0 := fun k hk => by
      have := List.mem_filter.mp (pm.mem_iff.mp hk)
      exact ⟨List.mem_range.mp this.1, of_decide_eq_true this.2⟩
    have ok := rp_ok t vp c1 (fun k g hk hc h => pl_ok t h (Vp.app.mpr ⟨vp, hk⟩) (by omega)) rp hin pw
    -- the wares, one by one
    have step : ∀ ws : List Nat, ws.Nodup → (∀ k ∈ ws, k < ch p ∧ ch (p ++ [k]) = 0) → PlOk ch (nd p) (r ++ ws.map fun k => (("put" : Str), p ++ [k])) fun q => Vp ch q ∧ ∃ k, (k ∈ os ∨ k ∈ ws) ∧ p ++ [k] <+: q := by
      intro ws
      have : ∀ n (ws : List Nat), ws.length = n → ws.Nodup → (∀ k ∈ ws, k < ch p ∧ ch (p ++ [k]) = 0) → PlOk ch (nd p) (r ++ ws.map fun k => (("put" : Str), p ++ [k])) fun q => Vp ch q ∧ ∃ k, (k ∈ os ∨ k ∈ ws) ∧ p ++ [k] <+: q := by
        intro n
        induction n with
        | zero =>
          intro ws e _ _
          have : ws = [] := List.length_eq_zero_iff.mp e
          subst this
          rw [List.map_nil, List.append_nil]
          refine ⟨fun q => ?_, ok.lg, ok.nar, ok.wo⟩
          rw [ok.mem]
          constructor
          · rintro ⟨v, k, hk, hq⟩
            exact ⟨v, k, .inl hk, hq⟩
          · rintro ⟨v, k, hk | hk, hq⟩
            · exact ⟨v, k, hk, hq⟩
            · exact nomatch hk
        | succ n ih =>
          intro ws e nd' hw
          cases er : ws.reverse with
          | nil =>
            have : ws = [] := List.reverse_eq_nil_iff.mp er
            subst this
            simp at e
          | cons k i =>
            have ew : ws = i.reverse ++ [k] := by have := congrArg List.reverse er; simpa using this
            generalize i.reverse = ws' at ew
            subst ew
            rw [List.nodup_append] at nd'
            have o := ih ws' (by simpa using e) nd'.1 fun j hj => hw j (List.mem_append_left _ hj)
            obtain ⟨kl, kc⟩ := hw k (by simp)
            have kn : k ∉ ws' := fun m => nd'.2.2 k m k (by simp) rfl
            have ko : k ∉ os := fun m => (hin k m).2 kc
            have vk : Vp ch (p ++ [k]) := Vp.app.mpr ⟨vp, kl⟩
            have eg : r ++ (ws' ++ [k]).map (fun k => (("put" : Str), p ++ [k])) = (r ++ ws'.map fun k => (("put" : Str), p ++ [k])) ++ [(("put" : Str), p ++ [k])] := by simp
            rw [eg]
            generalize (r ++ ws'.map fun k => (("put" : Str), p ++ [k])) = g1 at o
            have em : (g1 ++ [(("put" : Str), p ++ [k])]).map (·.2) = g1.map (·.2) ++ [p ++ [k]] := by simp
            have no : p ++ [k] ∉ g1.map (·.2) := fun m => by
              obtain ⟨_, j, hj, hq⟩ := (o.mem _).mp m
              rcases pfx_last hq with ⟨_, e⟩ | h
              · subst e
                exact hj.elim ko kn
              · exact pfx_no h
            have lg : Lg ch (g1.map (·.2) ++ [p ++ [k]]) := o.lg.snoc vk (by simp) no fun j hj => by omega
            have mem : ∀ q, q ∈ g1.map (·.2) ++ [p ++ [k]] ↔ Vp ch q ∧ ∃ j, (j ∈ os ∨ j ∈ ws' ++ [k]) ∧ p ++ [j] <+: q := fun q => by
              rw [List.mem_append, o.mem, List.mem_singleton]
              constructor
              · rintro (⟨v, j, hj, hq⟩ | rfl)
                · exact ⟨v, j, hj.imp id fun h => List.mem_append_left _ h, hq⟩
                · exact ⟨vk, k, .inr (by simp), List.prefix_rfl⟩
              · rintro ⟨v, j, hj, hq⟩
                rcases hj with hj | hj
                · exact .inl ⟨v, j, .inl hj, hq⟩
                · rcases List.mem_append.mp hj with hj | hj
                  · exact .inl ⟨v, j, .inr hj, hq⟩
                  · rw [List.mem_singleton.mp hj] at hq
                    obtain ⟨t', rfl⟩ := hq
                    cases t' with
                    | nil => exact .inr (by simp)
                    | cons a t' =>
                      exfalso
                      have e1 : p ++ [k] ++ a :: t' = (p ++ [k] ++ [a]) ++ t' := by simp
                      rw [e1] at v
                      have := (Vp.app.mp v.pfx).2
                      omega
            refine ⟨fun q => by rw [em]; exact mem q, by rw [em]; exact lg, fun x hx => ?_, fun a w q b e => ?_⟩
            · rw [em] at hx
              rcases pre_app hx with hx | ⟨z, rfl, hz⟩
              · exact o.nar x hx
              · cases z with
                | nil =>
                  rw [List.append_nil]
                  exact o.nar _ List.prefix_rfl
                | cons u z =>
                  have h1 := List.cons_prefix_cons.mp hz
                  have : z = [] := by simpa using h1.2
                  subst this
                  rw [h1.1]
                  have := hv_count lg (ks := [p]) fun q h1 h2 => by
                    obtain ⟨j, hj⟩ := h1
                    obtain ⟨v, i, hi, hq⟩ := (mem _).mp hj
                    rcases pfx_last hq with ⟨e, _⟩ | hq'
                    · rw [e]; simp
                    · exact absurd ((mem q).mpr ⟨(Vp.app.mp v).1, i, hi, hq'⟩) h2
                  have e1 : [p].length = 1 := rfl
                  omega
            · rcases snoc_split e with ⟨rfl, e2, rfl⟩ | ⟨b', rfl, e2⟩
              · cases e2
                exact ⟨fun _ => rfl, fun z => absurd kc z⟩
              · exact o.wo a w q b' e2
      exact this _ ws rfl
    have fin := step (wars ch p) (List.nodup_range.sublist List.filter_sublist) fun k hk => by
      have := List.mem_filter.mp hk
      exact ⟨List.mem_range.mp this.1, of_decide_eq_true this.2⟩
    rw [← e] at fin
    refine ⟨fun q => (fin.mem q).trans ?_, fin.lg, fin.nar, fin.wo⟩
    constructor
    · rintro ⟨v, k, _, hq⟩
      exact ⟨v, (List.prefix_append ..).trans hq, fun e => by subst e; exact pfx_no hq⟩
    · rintro ⟨v, ⟨t', rfl⟩, hne⟩
      cases t' with
      | nil => simp at hne
      | cons a t' =>
        have e1 : p ++ a :: t' = (p ++ [a]) ++ t' := by simp
        refine ⟨v, a, ?_, by rw [e1]; exact List.prefix_append ..⟩
        rw [e1] at v
        have al := (Vp.app.mp v.pfx).2
        by_cases c : ch (p ++ [a]) = 0
        · exact .inr (List.mem_filter.mpr ⟨List.mem_range.mpr al, decide_eq_true c⟩)
        · exact .inl (pm.mem_iff.mpr (List.mem_filter.mpr ⟨List.mem_range.mpr al, decide_eq_true c⟩))
theorem wd_le {d : Int} (d0 : 0 ≤ d) : ∀ {n : Nat} {g : List (List Nat)}, g.length = n → (∀ x, x <+: g → ((hv ch x).length : Int) ≤ d) → wd ch g ≤ d := by
  intro n
  induction n with
  | zero =>
    intro g e _
    have : g = [] := List.length_eq_zero_iff.mp e
    subst this
    exact d0
  | succ n ih =>
    intro g e h
    cases er : g.reverse with
    | nil =>
      have : g = [] := List.reverse_eq_nil_iff.mp er
      subst this
      simp at e
    | cons x i =>
      have eg : g = i.reverse ++ [x] := by have := congrArg List.reverse er; simpa using this
      generalize i.reverse = g' at eg
      subst eg
      rw [wd_snoc]
      have h1 := ih (g := g') (by simpa using e) fun x hx => h x (hx.trans (List.prefix_append ..))
      have h2 := h _ List.prefix_rfl
      omega
/-- the steps of a whole tree: its width is its need -/
theorem pl_root (t : TT ch nd N) {n : Nat} {g : List (Str × List Nat)} (h : Pl ch nd n [] g) (c1 : 1 ≤ ch []) : PlOk ch (nd []) g (fun q => Vp ch q ∧ q ≠ []) ∧ wd ch (g.map (·.2)) = nd [] := by
  have ok := pl_ok t h trivial c1
  have d1 := (t.need [] trivial c1).pos
  have ok' : PlOk ch (nd []) g fun q => Vp ch q ∧ q ≠ [] := ⟨fun q => (ok.mem q).trans ⟨fun ⟨a, _, b⟩ => ⟨a, b⟩, fun ⟨a, b⟩ => ⟨a, List.nil_prefix, b⟩⟩, ok.lg, ok.nar, ok.wo⟩
  refine ⟨ok', ?_⟩
  have h1 := wd_le (by omega) rfl ok.nar
  have h2 := narrowest t ok.lg (fun p v ne => (ok'.mem p).mpr ⟨v, ne⟩) c1
  omega
end
end TR

/-! ### a dict that was walked may change again; dict.update; min(one int, default=None) -/
namespace L2
open PySem PySem.Spec PyProof.Rows
def tThaw (H₀ : Hp) (te : TE) : TE := fun σ H Q => te σ H fun v H' => ∃ d ob kvs, H' d = some (.frz ob (.dK kvs)) ∧ (∀ o u, H₀ d ≠ some (.frz o u)) ∧ Q v (upd H' d (.dK kvs))
def rUpd : V → List V → Hp → VK → Prop := fun x vs H Q => ∃ d o kvs more, x = .ref d ∧ vs = [.ref o] ∧ d ≠ o ∧ H d = some (.dK kvs) ∧ H o = some (.dK more) ∧ kvs.length + more.length ≤ 1000 ∧ Q .non (upd H d (.dK (mergeK kvs more)))
section
variable {prog : Program} {w : World} {A : Around} {E : Value → Shared → Prop} {s : Shared}
end
end L2
namespace L2
open PySem PySem.Spec PyProof.Rows
def tMinD (te : TE) : TE := fun σ H Q => te σ H fun x H1 => ∃ l n, x = .ref l ∧ H1 l = some (.lst [.int n]) ∧ Q (.int n) H1
end L2

/-! ### methods, by their class; fields within a comprehension; a walked dict behind a statement -/
namespace L2
open PySem PySem.Spec PyProof.Rows
/-- a method of the class that may be called -/
structure MCal (P : Program) (w : World) (K : PySem.W.Frag) (mg : Str → Option Value) (base : Heap) (CX : CXT) (k : Nat) (C : Addr) (m : Str) (ps : List Str) (sp : Sp) : Prop where
  ex : ∃ (f : Addr) (fd : FuncData), Meth K C m f ∧ Binds K fd ps [] ∧ FnOk P w K mg base CX k f fd ps sp
section
variable {X : Cx} {CX : CXT} {k : Nat} {C : Addr} {m : Str} {ps : List Str} {sp : Sp} {E : XK} {o e : Expr} {es : List Expr} {ta : TE} {t : TA} {apos pos : Pos}
end
def tThawS (H₀ : Hp) (t : TS) : TS := fun D σ H => t { D with nx := fun σ' H' => ∃ d ob kvs, H' d = some (.frz ob (.dK kvs)) ∧ (∀ o u, H₀ d ≠ some (.frz o u)) ∧ D.nx σ' (upd H' d (.dK kvs)) } σ H
end L2

/-! ### sorted, by keys that all differ and may look at the heap -/
namespace L2.TS
open PySem PySem.Spec PyProof.Rows
abbrev Ky := List Nat
def ka (f : Value → Ky) (xs : Array Keyed) (i : Nat) : Ky := (xs[i]?.map fun p => f p.1).getD []
def Up (f : Value → Ky) (xs : Array Keyed) (n : Nat) : Prop := ∀ i j, i < j → j < n → ka f xs i < ka f xs j
def Dn (f : Value → Ky) (xs : Array Keyed) (n : Nat) : Prop := ∀ i j, i < j → j < n → ka f xs j < ka f xs i
def Df (f : Value → Ky) (xs : List Keyed) : Prop := xs.Pairwise fun p q => f p.1 ≠ f q.1
structure Sb (f : Value → Ky) (kd : SortKind) (o : Array Keyed) (st : SortSt) : Prop where
  pm : (arrOf st).Perm o
  kn : kindOf st = kd
  fl : failedOf st = none
  pe : pendingOf st = #[]
  df : Df f (arrOf st).toList
section
variable {prog : Program} {w : World} {A : Around} {E : Value → Shared → Prop} {s : Shared} {o : Array Keyed} {f : Value → Ky} {kd : SortKind}
/-- what a comparison of two of the values gives, at this heap -/
def Cmp (prog : Program) (w : World) (A : Around) (s : Shared) (kd : SortKind) (f : Value → Ky) (o : Array Keyed) : Prop :=
  ∀ (p q : Keyed) (E : Value → Shared → Prop) (Q : Bool → Shared → Prop), p ∈ o.toList → q ∈ o.toList → f p.1 ≠ f q.1 → Q (decide (f p.1 < f q.1)) s → wpAny (model prog w) A (keyLt' kd p.1 q.1) Q E s
end
end L2.TS

namespace L2.TS
open PySem PySem.Spec PyProof.Rows
section
variable {prog : Program} {w : World} {A : Around} {E : Value → Shared → Prop} {s : Shared} {o : Array Keyed} {f : Value → Ky} {kd : SortKind}
/-- where the k-th goes: l so that all before are less, all from it on are more -/
def At (f : Value → Ky) (xs : Array Keyed) (k l r : Nat) : Prop := (∀ i, i < l → ka f xs i < ka f xs k) ∧ ∀ i, r ≤ i → i < k → ka f xs k < ka f xs i
def Dne (f : Value → Ky) (o : Array Keyed) (st : SortSt) : Prop := (arrOf st).Perm o ∧ failedOf st = none ∧ (pendingOf st).size = 1 ∧ Up f (arrOf st) o.size
end
end L2.TS

/-! ### sorted of tuples whose first texts differ -/
namespace L2.TS
open PySem PySem.Spec PyProof.Rows
/-- a tuple whose first item is the text nm v -/
def Tp (h : Heap) (nm : Value → Str) (v : Value) : Prop := ∃ a o xs n t r, v = .ref a ∧ h.get? a = some o ∧ o.cls = .type "tuple" ∧ o.data = .seq xs n ∧ xs.toList = .str (nm v) t :: r
section
variable {prog : Program} {w : World} {A : Around} {E : Value → Shared → Prop} {s : Shared} {nm : Value → Str} {vs : List Value}
abbrev kf (nm : Value → Str) : Value → Ky := fun v => (nm v).cps.toList
end
end L2.TS
namespace L2
open PySem PySem.Spec PyProof.Rows
/-- the first text of the tuple there -/
def nmH (H : Hp) (a : Addr) : Str := match H a with
  | some (.tup (.str x :: _)) => x
  | _ => ⟨#[]⟩
def nmV (H : Hp) : Value → Str
  | .ref a => nmH H a
  | _ => ⟨#[]⟩
def adOf : Value → Addr
  | .ref a => a
  | _ => 0
def rSortT (K : PySem.W.Frag) : List V → Hp → VK → Prop := fun xs H Q => ∃ a as, xs = [.ref a] ∧ SqL K H a (as.map V.ref) ∧ as.length < 64 ∧ (∀ q ∈ as, ∃ x r, H q = some (.tup (.str x :: r))) ∧ (as.map (nmH H)).Nodup ∧
  ∀ (p : Addr) (as' : List Addr), as'.Perm as → (as'.Pairwise fun u v => (nmH H u).cps.toList < (nmH H v).cps.toList) → H p = none → Q (.ref p) (upd H p (.lst (as'.map V.ref)))
end L2

/-! ### sorted(xs, key=lambda x: x[k]), a def's table of codes tracked -/
namespace L2.LM
open PySem PySem.Spec PySem.Calls PyProof.Rows PySem.W
abbrev lbody (x : Str) (k : Int) (kd : Nat) (p1 p2 p3 : Pos) : Expr := .Subscript (.Name x p1) (.Constant (.int k) kd p2) p3
section
variable {prog : Program} {w : World} {A : Around} {E : Value → Shared → Prop} {s : Shared} {f c' q : Addr} {name qual x : Str} {params : Arguments} {scope : Scope} {pm ctv : Value} {k n : Int} {kd j : Nat} {p1 p2 p3 : Pos} {items : Array Value} {t : Tok}
end
end L2.LM
namespace L2
open PySem PySem.Spec PySem.Calls PyProof.Rows
section
variable {X : Cx} {pins : List (Addr × Obj)} {σ : St} {H : Hp} {s : Shared}
/-- a table grew, its new code is known to the object -/
theorem Inv.lamNew {P c' : Addr} {ps more : Array Value} {oc : Obj} {h' : Heap} {tk : Nat} (I : Inv X pins σ H s) (hP : H P = some (.tbl ps)) (hx : Heap.ExtBut P s.heap h') (hc : s.heap.objs.size ≤ c') (hoc : h'.get? c' = some oc)
    (htb : h'.get? P = some (PySem.W.tabObj (ps ++ more))) : Inv X pins σ (upd (upd H P (.tbl (ps ++ more))) c' (.frz oc (.own 0))) { s with heap := h', toks := tk } := by
  have hn : H c' = none := I.hok.fresh hc
  have nP : ∀ b u, H b = some u → (∀ ps, u ≠ .tbl ps) → b ≠ P := fun b u e n z => by rw [z, hP] at e; cases e; exact n _ rfl
  have nP0 : ∀ b, H b = none → b ≠ P := fun b e z => by rw [z, hP] at e; cases e
  have nc : ∀ b u, H b = some u → b ≠ c' := fun b u e => ne_of_none e hn
  have up : ∀ b u, H b = some u → (∀ ps, u ≠ .tbl ps) → upd (upd H P (.tbl (ps ++ more))) c' (.frz oc (.own 0)) b = some u := fun b u e n => by rw [upd_ne (nc b u e), upd_ne (nP b u e n)]; exact e
  refine I.step (g' := s.gens) (d' := s.drawn) (ch := []) (fun _ z => nomatch z) (fun b o _ _ _ e n => hx b o (nP0 b n) e) (fun b o _ _ _ e n => ⟨o.slots, hx b o (nP0 b n) e⟩)
    (fun b o _ e n => by rw [upd_ne (Nat.ne_of_lt (Nat.lt_of_lt_of_le (Heap.lt_size e) hc)), upd_ne (nP0 b n)]; exact n) (fun b o _ e => ?_) (fun b xs e => up b _ e fun _ z => by cases z) (fun b o u e => up b _ e fun _ z => by cases z) (fun b qs e => ?_)
    (fun m hm => ?_) (fun b u e => ?_) I.bare
  · by_cases hb : b = P
    · subst hb; exact ⟨_, htb⟩
    · exact ⟨o, hx b o hb e⟩
  · by_cases hb : b = P
    · subst hb
      rw [hP] at e; cases e
      exact ⟨more, by rw [upd_ne (nc b _ hP), upd_same]⟩
    · exact ⟨#[], by rw [upd_ne (nc b _ e), upd_ne hb, e]; simp⟩
  · obtain ⟨o, es, ep, ho, r⟩ := hm
    exact ⟨o, es, ep, hx _ o (nP0 _ I.free) ho, r⟩
  · by_cases hb : b = c'
    · subst hb
      rw [upd_same] at e; cases e
      exact ⟨hoc, oc, hoc⟩
    · rw [upd_ne hb] at e
      by_cases hb2 : b = P
      · subst hb2
        rw [upd_same] at e; cases e
        exact htb
      · rw [upd_ne hb2] at e
        refine (I.hok b u e).stay (fun d v hd q => hx d v ?_ q) (fun d q => up d _ q fun _ z => by cases z) fun d xs q => up d _ q fun _ z => by cases z
        rcases hd with z | z
        · rw [z]; exact hb2
        · exact nP d _ z fun _ y => by cases y
end
/-- the module's code of a def whose table is tracked at P -/
structure LamB (mg : Str → Option Value) (base : Heap) (c P : Addr) : Prop where
  code : PySem.W.CodeHd base c P
  gne : mainGlobals ≠ P
  bm : base.BuiltinsAt mg P
/-- the table of a def with one lambda: empty, or it has the lambda's code -/
def LamT (H : Hp) (P : Addr) (qual : Str) (pos : Pos) : Prop := H P = some (.tbl #[]) ∨ ∃ c' oc vs t u, H P = some (.tbl #[rawInt pos.line, rawInt pos.col, .ref c']) ∧ H c' = some (.frz oc u) ∧ oc.data = .fields vs ∧ vs[1]? = some (.str qual t)
/-- all but the table stayed -/
def SameB (P : Addr) (H H' : Hp) : Prop := ∀ b o, b ≠ P → H b = some o → H' b = some o
theorem SameB.trans {P : Addr} {H H1 H2 : Hp} (a : SameB P H H1) (b : SameB P H1 H2) : SameB P H H2 := fun c o n h => b c o n (a c o n h)
theorem Same.b {P : Addr} {H H' : Hp} (s : Same H H') : SameB P H H' := fun b o _ h => s b o h
theorem LamT.keep {H H' : Hp} {P : Addr} {qual : Str} {pos : Pos} (h : LamT H P qual pos) (s : Same H H') : LamT H' P qual pos := by
  rcases h with h | ⟨c', oc, vs, t, u, h1, h2, h3, h4⟩
  · exact .inl (s _ _ h)
  · exact .inr ⟨c', oc, vs, t, u, s _ _ h1, s _ _ h2, h3, h4⟩
theorem SameB.tup {P : Addr} {H H' : Hp} {a : Addr} {xs : List V} {qual : Str} {pos : Pos} (s : SameB P H H') (l : LamT H P qual pos) (h : H a = some (.tup xs)) : H' a = some (.tup xs) := s _ _ (fun e => by
  rcases l with l | ⟨c', oc, vs, t, u, l, _⟩ <;> rw [e, l] at h <;> cases h) h
theorem SameB.lst {P : Addr} {H H' : Hp} {a : Addr} {xs : List V} {qual : Str} {pos : Pos} (s : SameB P H H') (l : LamT H P qual pos) (h : H a = some (.lst xs)) : H' a = some (.lst xs) := s _ _ (fun e => by
  rcases l with l | ⟨c', oc, vs, t, u, l, _⟩ <;> rw [e, l] at h <;> cases h) h
theorem SameB.frz {P : Addr} {H H' : Hp} {a : Addr} {o : Obj} {w : HO} {qual : Str} {pos : Pos} (s : SameB P H H') (l : LamT H P qual pos) (h : H a = some (.frz o w)) : H' a = some (.frz o w) := s _ _ (fun e => by
  rcases l with l | ⟨c', oc, vs, t, u, l, _⟩ <;> rw [e, l] at h <;> cases h) h
theorem lamT_ne {H : Hp} {P a : Addr} {qual : Str} {pos : Pos} {o : HO} (l : LamT H P qual pos) (h : H a = some o) (n : ∀ ps, o ≠ .tbl ps) : a ≠ P := fun e => by
  rcases l with l | ⟨c', oc, vs, t, u, l, _⟩ <;> rw [e, l] at h <;> cases h <;> exact n _ rfl
end L2
namespace L2
open PySem PySem.Spec PySem.Calls PyProof.Rows
/-- sorted(xs, key=lambda x: x[k]): key tells the item -/
def tSortK (K : PySem.W.Frag) (P : Addr) (qual : Str) (lpos : Pos) (k : Int) (te : TE) : TE := fun σ H Q => te σ H fun x H1 => ∃ (a : Addr) (as : List Addr) (key : Addr → Int), x = .ref a ∧ SqL K H1 a (as.map V.ref) ∧ as.length < 64 ∧ LamT H1 P qual lpos ∧
  (∀ q ∈ as, ∃ xs, H1 q = some (.tup xs) ∧ atI xs k = some (.int (key q))) ∧
  ∀ (p : Addr) (as' : List Addr) (H2 : Hp), as'.Perm as → (as'.Pairwise fun u v => key u ≤ key v) → SameB P H1 H2 → LamT H2 P qual lpos → H1 p = none → H2 p = some (.lst (as'.map V.ref)) → Q (.ref p) H2
end L2

/-! ### sorted(xs, key=lambda x: body, reverse=True), the lambda's body read by rules, one name of the def's own seen in it -/
namespace L2
open PySem PySem.Spec PySem.Calls PyProof.Rows
/-- the context of a lambda's body -/
def lmX (X : Cx) (N' : List Str) (qual : Str) (scope : Scope) (cl : List (Str × Addr)) (f : Addr) (cd : Value) (A : Around) (s : Shared) (H : Hp) : Cx where
  prog := X.prog
  w := X.w
  K := X.K
  mg := X.mg
  base := X.base
  A := A.deeper (PySem.W.envX qual scope s.heap.objs.size f cd cl)
  N := N'
  s₀ := s
  H₀ := H
  env := PySem.W.envX qual scope s.heap.objs.size f cd cl
  outer := X.stack
  stack := PySem.W.envX qual scope s.heap.objs.size f cd cl :: X.stack
  ex := []
  fn := fun _ => false
  calm := true
  pn := []
  xe := fun _ _ => False
/-- a lambda of one parameter, one free name -/
structure LmS (scope : Scope) (x y : Str) : Prop where
  kind : scope.kind = .function
  co : scope.isCoroutine = false
  gen : scope.isGenerator = false
  cell : ∀ z ∈ scope.names, z.2 ≠ .cell
  loc : scope.names.lookup x = some .local
  fre : scope.names.lookup y = some .free
  only : ∀ z, scope.names.lookup z = some .free → z = y
section
variable {X : Cx} {pins : List (Addr × Obj)} {σ : St} {H : Hp} {s : Shared}
theorem lam_callC (I : Inv X pins σ H s) {A : Around} (hA : A.frames = some X.stack) (hh : A.handled = none) (hroom : A.depth < recursionLimit) {f c' cc : Addr} {qual x y : Str} {params : Arguments} {body : Expr} {scope : Scope} {pm ctv u uy : Value} {v vy : V}
    (ru : RelV v u) (ry : RelV vy uy) (S : LmS scope x y) (xy : x ≠ y) (ho : s.heap.get? f = some (PySem.W.kla_obj "<lambda>" qual params body scope [(y, cc)] pm c' ctv)) (hcd : s.heap.CodeRec (.ref c') qual)
    (hb : bindArgs (PySem.W.kla_fn "<lambda>" qual params body scope [(y, cc)] pm (.ref c') ctv) ⟨[u], []⟩ = pure [(x, u)]) (hcell : s.heap.IsCell cc (some uy)) (hcn : H cc = none) {t : TE} {Q : VK}
    (hp : PE (lmX X [x, y] qual scope [(y, cc)] f (.ref c') A s H) body t) (q : t [some v, some vy] H Q) :
    wpAny (model X.prog X.w) A (call (.ref f) [u]) (fun u' s' => CE X.stack X.prog X.w H s Q u' s') (fun _ _ => False) s := by
  refine wpAny_call (PySem.W.kla_callFunE hroom ho rfl S.co S.gen rfl hcd ?_)
  rw [hb]
  have e0 := I.env0
  have lim : s.heap.NoLimit := I.nolimit
  refine wpAny_pure (wpAny_newFunctionEnv S.cell (fun z hz => ?_) (fun h₁ hns hsb => ?_) S.kind)
  · have e : z = (x, u) := by simpa using hz
    rw [e]; exact S.loc
  · have hk₁ : ∀ b o, s.heap.get? b = some o → h₁.get? b = some o := fun b o e => hsb.extBut b o (Nat.ne_of_lt (Heap.lt_size e)) (Heap.get?_push_of_some _ e)
    refine ⟨lim.keeps hk₁, PySem.W.kla_codeExpr ?_⟩
    have lk : ∀ z c, (PySem.W.envX qual scope s.heap.objs.size f (.ref c') [(y, cc)]).cells.lookup z = some c → z = y ∧ c = cc := fun z c e => by
      have e' : [(y, cc)].lookup z = some c := e
      rw [List.lookup_cons] at e'
      by_cases zy : z = y
      · subst zy
        simp at e'
        exact ⟨rfl, e'.symm⟩
      · rw [beq_false_of_ne zy] at e'
        simp at e'
    have lky : (PySem.W.envX qual scope s.heap.objs.size f (.ref c') [(y, cc)]).cells.lookup y = some cc := by
      show [(y, cc)].lookup y = some cc
      simp
    have noA : ∀ b : Addr, b ∉ (lmX X [x, y] qual scope [(y, cc)] f (.ref c') A s H).ex := fun b z => absurd (show b ∈ ([] : List Addr) from z) (by simp)
    have J : Inv (lmX X [x, y] qual scope [(y, cc)] f (.ref c') A s H) [] [some v, some vy] H { s with heap := h₁, toks := s.toks + 1 } := by
      refine ⟨⟨e0.mod, S.kind, rfl, rfl, Nat.le_refl _, fun a b c h1 h2 => ?_, fun a ha => ?_, fun a c h _ => (by cases h), fun _ => hh, Around.frames_deeper hA, .inr ⟨rfl, rfl⟩, fun b z => absurd z (noA b), e0.bs, e0.bsz, fun b _ _ => noA b, fun b z => absurd z (noA b), e0.funs, e0.frf⟩,
        rfl, e0.bare, Un.kept hk₁, ⟨_, hns, fun i z w h1 h2 h3 => ?_⟩, fun a c h => ?_, e0.hok.fresh (Nat.le_refl _), fun a c h => ?_, fun p hp => absurd (show p ∈ ([] : List (Addr × Obj)) from hp) (by simp), e0.hok.kept hk₁, rfl⟩
      · rw [(lk a c h1).1, (lk b c h2).1]
      · have ha : scope.names.lookup a = some .cell ∨ scope.names.lookup a = some .free := ha
        rcases ha with ha | ha
        · exact absurd rfl (S.cell _ (PySem.mem_of_lookup ha))
        · rw [S.only a ha]
          exact ⟨cc, lky⟩
      · match i, h1, h2 with
        | 0, h1, h2 =>
          have h1' : x = z := by
            have h1 : some x = some z := h1
            exact Option.some.inj h1
          have h2' : v = w := by
            have h2 : some (some v) = some (some w) := h2
            exact Option.some.inj (Option.some.inj h2)
          subst h1' h2'
          exact ⟨u, ru, .inl ⟨S.loc, by simp⟩⟩
        | 1, h1, h2 =>
          have h1' : y = z := by
            have h1 : some y = some z := h1
            exact Option.some.inj h1
          have h2' : vy = w := by
            have h2 : some (some vy) = some (some w) := h2
            exact Option.some.inj (Option.some.inj h2)
          subst h1' h2'
          obtain ⟨o, ho', hd'⟩ := hcell
          exact ⟨uy, ry, .inr ⟨.inr S.fre, cc, lky, ⟨o, hk₁ _ _ ho', hd'⟩⟩⟩
        | i + 2, h1, h2 => cases h1
      · obtain ⟨o, ho', hd'⟩ := hcell
        rw [(lk a c h).2]
        exact ⟨_, o, hk₁ _ _ ho', hd'⟩
      · rw [(lk a c h).2]
        exact hcn
    exact wpAny_mono (hp [] _ [some v, some vy] H Q J q) (fun u' s' ⟨v', H', J', rv, q'⟩ => ⟨v', H', J'.os, J'.bare, J'.base, J'.hok, rv, q'⟩) fun _ _ z => z.elim
/-- an untracked object of one's own changes -/
theorem Inv.poke {kS : Addr} {h' : Heap} {tk : Nat} (I : Inv X pins σ H s) (n0 : X.s₀.heap.objs.size ≤ kS) (nL : kS ≠ X.env.locals) (nC : ∀ x c, X.env.cells.lookup x = some c → c ≠ kS) (nP : ∀ p ∈ X.pn ++ pins, p.1 ≠ kS) (hn : H kS = none) (hs : Heap.SameBut kS s.heap h') :
    Inv X pins σ H { s with heap := h', toks := tk } := by
  refine I.step (g' := s.gens) (d' := s.drawn) (ch := [kS]) (fun b hb => ?_) (fun b o _ _ nb e _ => ?_) (fun b o _ _ nb e _ => ⟨o.slots, ?_⟩) (fun b o _ _ n => n) (fun b o nb e => ⟨o, ?_⟩) (fun b xs e => e) (fun b o u e => e) (fun b qs e => ⟨#[], by rw [e]; simp⟩) (fun m hm => hm.sameBut hs nL.symm) (fun b u e => ?_) I.bare
  · rw [List.mem_singleton.mp hb]
    exact ⟨.inr n0, nL, nC, nP⟩
  · exact (hs.2 b (fun z => nb (by simp [z]))).trans e
  · exact (hs.2 b (fun z => nb (by simp [z]))).trans e
  · exact (hs.2 b (fun z => nb (by simp [z]))).trans e
  · refine (I.hok b u e).stay (fun d v hd q => (hs.2 d ?_).trans q) (fun d q => q) fun d xs q => q
    rcases hd with z | z
    · rw [z]
      exact fun y => by rw [y, hn] at e; cases e
    · exact fun y => by rw [y, hn] at z; cases z
theorem frs_lt (I : Inv X pins σ H s) {b : Addr} (hb : b ∈ frs X.stack) : @LT.lt Nat _ b s.heap.objs.size := by
  obtain ⟨_, o, e, _⟩ := I.env0.funs.mem hb
  exact Heap.lt_size e
theorem ane {a b : Nat} (h : a ≠ b) : @Ne Addr a b := h
theorem anl {a b : Nat} (h : ¬ a < b) : ¬ @LT.lt Nat _ a b := h
end
/-- sorted(xs, key=lambda x: .., reverse=b): the name at i is seen in the lambda -/
def tSortC (K : PySem.W.Frag) (P : Addr) (qual : Str) (lpos : Pos) (b : Bool) (i : Nat) (te tb : TE) : TE := fun σ H Q => te σ H fun x H1 => ∃ (a : Addr) (vs : List V) (kz : List Int) (w : V), x = .ref a ∧ SqL K H1 a vs ∧ vs.length < 64 ∧ kz.length = vs.length ∧ LamT H1 P qual lpos ∧ σ[i]? = some (some w) ∧
  (∀ (j : Nat) (v : V) (k : Int), vs[j]? = some v → kz[j]? = some k → ∀ H2, SameB P H1 H2 → tb [some v, some w] H2 fun y H3 => y = .int k ∧ Same H2 H3) ∧
  ∀ (p : Addr) (ps : List (Int × V)) (H2 : Hp), ps.Perm (kz.zip vs) → (ps.Pairwise fun p q => if b then q.1 ≤ p.1 else p.1 ≤ q.1) → SameB P H1 H2 → LamT H2 P qual lpos → H1 p = none → H2 p = some (.lst (ps.map (·.2))) → Q (.ref p) H2
end L2

/-! ### sorts keep the order of what is alike -/
namespace HS
open PySem PyProof.Rows
def T (τ : Keyed → Int) (xs : Array Keyed) (i : Nat) : Int := match xs[i]? with
  | some p => τ p
  | none => 0
def SS (τ : Keyed → Int) (xs : Array Keyed) (k : Nat) : Prop := ∀ i j, i < j → j < k → K xs i < K xs j ∨ (K xs i = K xs j ∧ T τ xs i < T τ xs j)
def RS (τ : Keyed → Int) (xs : Array Keyed) (k : Nat) : Prop := ∀ i j, i < j → j < k → K xs j < K xs i ∨ (K xs j = K xs i ∧ T τ xs j < T τ xs i)
def Tl (τ : Keyed → Int) (xs : Array Keyed) (n sz : Nat) : Prop := ∀ i j, i < j → n ≤ j → j < sz → T τ xs i < T τ xs j
section
variable {τ : Keyed → Int} {xs : Array Keyed}
theorem T_congr {ys : Array Keyed} {i j : Nat} (h : xs[i]? = ys[j]?) : T τ xs i = T τ ys j := by unfold T; rw [h]
theorem T_bubble {src d : Nat} (hs : src < xs.size) (hd : d ≤ src) (k : Nat) :
    T τ (bubble xs src d) k = if k = src - d then T τ xs src else if src - d < k ∧ k ≤ src then T τ xs (k - 1) else T τ xs k := by
  have e := getElem?_bubble hs d hd k
  by_cases h1 : k = src - d
  · rw [if_pos h1] at e ⊢; exact T_congr e
  · rw [if_neg h1] at e ⊢
    by_cases h2 : src - d < k ∧ k ≤ src
    · rw [if_pos h2] at e ⊢; exact T_congr e
    · rw [if_neg h2] at e ⊢; exact T_congr e
theorem T_mirror {i j : Nat} (hj : j ≤ xs.size) (k : Nat) : T τ (mirror xs i j ((j - i) / 2)) k = if i ≤ k ∧ k < j then T τ xs (i + j - 1 - k) else T τ xs k := by
  have e := getElem?_mirror_all (i := i) hj k
  by_cases h1 : i ≤ k ∧ k < j
  · rw [if_pos h1] at e ⊢; exact T_congr e
  · rw [if_neg h1] at e ⊢; exact T_congr e
theorem Tl.up {n m sz : Nat} (h : Tl τ xs n sz) (l : n ≤ m) : Tl τ xs m sz := fun i j a b c => h i j a (by omega) c
theorem Tl.mirror {i n sz : Nat} (h : Tl τ xs n sz) (hj : n ≤ xs.size) : Tl τ (mirror xs i n ((n - i) / 2)) n sz := fun a b hab hnb hb => by
  have e2 : T τ (PyProof.Rows.mirror xs i n ((n - i) / 2)) b = T τ xs b := by rw [T_mirror hj, if_neg (by omega)]
  have e1 := T_mirror (τ := τ) (i := i) hj a
  rw [e2, e1]
  split
  · exact h _ _ (by omega) hnb hb
  · exact h _ _ hab hnb hb
theorem SS.le {k : Nat} (h : SS τ xs k) {i j : Nat} (hij : i ≤ j) (hj : j < k) : K xs i ≤ K xs j := by
  by_cases e : i = j
  · subst e; exact Int.le_refl _
  · rcases h i j (by omega) hj with h | h <;> omega
end
section
variable {prog : Program} {w : World} {A : Around} {E : Value → Shared → Prop} {s : Shared} {a₀ : Array Keyed} {τ : Keyed → Int}
theorem ascLoop2 {st : SortSt} {a nrem : Nat} {Q : AscSt → SortSt → Prop} (h0 : IntKeys a₀) (hn : nrem ≤ a₀.size) (ha : 1 ≤ a) (han : a ≤ nrem) (hB : SBase a₀ st)
    (hs : SS τ (arrOf st) a) (tl : Tl τ (arrOf st) a a₀.size)
    (h : ∀ n, a ≤ n → n ≤ nrem → SS τ (arrOf st) n → (n = nrem ∨ K (arrOf st) n < K (arrOf st) (n - 1)) → Q (none, n) st) :
    wpS (model prog w) A E s (ascLoop a nrem) Q st := by
  unfold ascLoop
  refine wpS_forRange (I := fun x c st' => st' = st ∧ c = (none, x) ∧ SS τ (arrOf st) x) ?step ?fin ⟨rfl, rfl, hs⟩
  case fin =>
    rintro c st' ⟨rfl, rfl, hs'⟩
    rw [show max a nrem = nrem by omega] at hs' ⊢
    exact h nrem han (Nat.le_refl _) hs' (.inl rfl)
  case step =>
    rintro x c st' hax hxn ⟨rfl, rfl, hs'⟩
    dsimp only
    refine wpS_bind (wpS_ltK hB h0 (by omega) (by omega) ?_)
    by_cases hless : K (arrOf st') x < K (arrOf st') (x - 1)
    · simp only [hless, decide_true, if_true]
      exact wpS_pure (h x hax (by omega) hs' (.inr hless))
    · simp only [hless, decide_false, Bool.false_eq_true, if_false]
      refine wpS_pure ⟨rfl, rfl, fun i j hij hj => ?_⟩
      by_cases hjx : j < x
      · exact hs' i j hij hjx
      · have hj' : j = x := by omega
        subst hj'
        have h1 := hs'.le (i := i) (j := j - 1) (by omega) (by omega)
        have h2 := tl i j hij hax (by omega)
        by_cases h3 : K (arrOf st') i < K (arrOf st') j
        · exact .inl h3
        · exact .inr ⟨by omega, h2⟩
theorem tail32 {st : SortSt} {n nrem : Nat} {Q : Option Nat → SortSt → Prop} (h0 : IntKeys a₀) (hn : nrem ≤ a₀.size) (h1 : 1 ≤ n) (hnn : n ≤ nrem) (hB : SBase a₀ st)
    (hs : RS τ (arrOf st) n) (tl : Tl τ (arrOf st) n a₀.size) (h : ∀ m st', SBase a₀ st' → 1 ≤ m → m ≤ nrem → SS τ (arrOf st') m → Tl τ (arrOf st') m a₀.size → Q (some m) st') :
    wpS (model prog w) A E s (tail3 n nrem) Q st := by
  unfold tail3
  have hsz : n ≤ (arrOf st).size := by rw [hB.size]; omega
  refine wpS_bind (wpS_reverse ?_)
  have hB' : SBase a₀ (setArr st (mirror (arrOf st) 0 n ((n - 0) / 2))) := hB.setArr (mirror_perm _ _ _ _)
  have tl' : Tl τ (mirror (arrOf st) 0 n ((n - 0) / 2)) n a₀.size := tl.mirror hsz
  refine wpS_bind (ascLoop2 h0 hn h1 hnn hB' ?_ tl' fun m hm1 hm2 hsm _ => wpS_pure (h m _ hB' (by omega) hm2 hsm (tl'.up hm1)))
  intro i j hij hj
  show K (mirror (arrOf st) 0 n ((n - 0) / 2)) i < K (mirror (arrOf st) 0 n ((n - 0) / 2)) j ∨ (K (mirror (arrOf st) 0 n ((n - 0) / 2)) i = K (mirror (arrOf st) 0 n ((n - 0) / 2)) j ∧ T τ (mirror (arrOf st) 0 n ((n - 0) / 2)) i < T τ (mirror (arrOf st) 0 n ((n - 0) / 2)) j)
  rw [K_mirror hsz, K_mirror hsz, T_mirror hsz, T_mirror hsz, if_pos (by omega), if_pos (by omega), if_pos (by omega), if_pos (by omega)]
  exact hs _ _ (by omega) (by omega)
/-- behind x parts, the last neq + 1 of them alike and not yet turned -/
structure DI (τ : Keyed → Int) (xs : Array Keyed) (x neq : Nat) : Prop where
  rs : RS τ xs (x - neq)
  le : neq + 1 ≤ x
  eq : ∀ i j, x - (neq + 1) ≤ i → i < j → j < x → K xs i = K xs j ∧ T τ xs i < T τ xs j
  st : ∀ i j, i < x - (neq + 1) → x - (neq + 1) ≤ j → j < x → K xs j < K xs i
theorem DI.turn {xs : Array Keyed} {x neq : Nat} (d : DI τ xs x neq) (hx : x ≤ xs.size) : RS τ (mirror xs (x - (neq + 1)) x ((x - (x - (neq + 1))) / 2)) x := fun i j hij hj => by
  have le := d.le
  rw [K_mirror hx, K_mirror hx, T_mirror hx, T_mirror hx]
  by_cases hj' : x - (neq + 1) ≤ j
  · rw [if_pos (show x - (neq + 1) ≤ j ∧ j < x by omega), if_pos (show x - (neq + 1) ≤ j ∧ j < x by omega)]
    by_cases hi' : x - (neq + 1) ≤ i
    · rw [if_pos (show x - (neq + 1) ≤ i ∧ i < x by omega), if_pos (show x - (neq + 1) ≤ i ∧ i < x by omega)]
      exact .inr (d.eq _ _ (by omega) (by omega) (by omega))
    · rw [if_neg (show ¬(x - (neq + 1) ≤ i ∧ i < x) by omega), if_neg (show ¬(x - (neq + 1) ≤ i ∧ i < x) by omega)]
      exact .inl (d.st i _ (by omega) (by omega) (by omega))
  · rw [if_neg (show ¬(x - (neq + 1) ≤ j ∧ j < x) by omega), if_neg (show ¬(x - (neq + 1) ≤ j ∧ j < x) by omega), if_neg (show ¬(x - (neq + 1) ≤ i ∧ i < x) by omega), if_neg (show ¬(x - (neq + 1) ≤ i ∧ i < x) by omega)]
    exact d.rs i j hij (by omega)
theorem DI.next {xs ys : Array Keyed} {x neq : Nat} (d : DI τ xs x neq) (hr : RS τ ys x) (hk : ∀ i, i < x → ∃ j, j < x ∧ K ys i = K xs j) (hx : K ys x = K xs x) (hl : K xs x < K xs (x - 1)) : DI τ ys (x + 1) 0 := by
  have le := d.le
  have low : ∀ j, j < x → K xs x < K xs j := fun j hj => by
    by_cases h : x - (neq + 1) ≤ j
    · by_cases e : j = x - 1
      · subst e; exact hl
      · have := (d.eq j (x - 1) h (by omega) (by omega)).1
        omega
    · have := d.st j (x - 1) (by omega) (by omega) (by omega)
      omega
  have low2 : ∀ i, i < x → K ys x < K ys i := fun i hi => by
    obtain ⟨j, hj, e⟩ := hk i hi
    have := low j hj
    omega
  refine ⟨fun i j hij hj => ?_, by omega, fun i j h1 h2 h3 => by omega, fun i j h1 h2 h3 => ?_⟩
  · by_cases e : j = x
    · subst e; exact .inl (low2 i hij)
    · exact hr i j hij (by omega)
  · have : j = x := by omega
    subst this
    exact low2 i (by omega)
theorem descLoop2 {st : SortSt} {n nrem : Nat} {Q : DescSt → SortSt → Prop} (h0 : IntKeys a₀) (hn : nrem ≤ a₀.size) (h1 : 1 ≤ n) (hnn : n ≤ nrem) (hB : SBase a₀ st)
    (hs : DI τ (arrOf st) n 0) (tl : Tl τ (arrOf st) n a₀.size)
    (h : ∀ m neq st', SBase a₀ st' → n ≤ m → m ≤ nrem → DI τ (arrOf st') m neq → Tl τ (arrOf st') m a₀.size → Q (none, m, neq) st') :
    wpS (model prog w) A E s (descLoop n nrem) Q st := by
  unfold descLoop
  refine wpS_forRange (I := fun x c st' => ∃ neq, c = (none, x, neq) ∧ SBase a₀ st' ∧ DI τ (arrOf st') x neq ∧ Tl τ (arrOf st') x a₀.size) ?step ?fin ⟨0, rfl, hB, hs, tl⟩
  case fin =>
    rintro c st' ⟨neq, rfl, hB', hs', tl'⟩
    rw [show max n nrem = nrem by omega] at hs' tl' ⊢
    exact h nrem neq st' hB' hnn (Nat.le_refl _) hs' tl'
  case step =>
    rintro x c st' hax hxn ⟨neq, rfl, hB', hs', tl'⟩
    dsimp only
    have hsz : x ≤ (arrOf st').size := by rw [hB'.size]; omega
    have le := hs'.le
    refine wpS_bind (wpS_ltK hB' h0 (by omega) (by omega) ?_)
    by_cases hless : K (arrOf st') x < K (arrOf st') (x - 1)
    · simp only [hless, decide_true, if_true]
      by_cases hneq : neq > 0
      · rw [if_pos hneq]
        refine wpS_bind (wpS_reverse (wpS_pure ⟨0, rfl, hB'.setArr (mirror_perm _ _ _ _), hs'.next (hs'.turn hsz) (fun i hi => ?_) ?_ hless, (tl'.mirror hsz).up (by omega)⟩))
        · rw [K_mirror hsz]
          split
          · exact ⟨_, by omega, rfl⟩
          · exact ⟨i, hi, rfl⟩
        · show K (mirror (arrOf st') _ _ _) x = _
          rw [K_mirror hsz, if_neg (by omega)]
      · rw [if_neg hneq]
        have e0 : neq = 0 := by omega
        subst e0
        exact wpS_pure ⟨0, rfl, hB', hs'.next hs'.rs (fun i hi => ⟨i, hi, rfl⟩) rfl hless, tl'.up (by omega)⟩
    · simp only [hless, decide_false, Bool.false_eq_true, if_false]
      refine wpS_bind (wpS_ltK hB' h0 (by omega) (by omega) ?_)
      by_cases hlarger : K (arrOf st') (x - 1) < K (arrOf st') x
      · simp only [hlarger, decide_true, if_true]
        exact wpS_pure (h x neq st' hB' hax (by omega) hs' tl')
      · simp only [hlarger, decide_false, Bool.false_eq_true, if_false]
        have heqx : K (arrOf st') x = K (arrOf st') (x - 1) := by omega
        refine wpS_pure ⟨neq + 1, rfl, hB', ⟨?_, by omega, fun i j q1 q2 q3 => ?_, fun i j q1 q2 q3 => ?_⟩, tl'.up (by omega)⟩
        · rw [show x + 1 - (neq + 1) = x - neq by omega]
          exact hs'.rs
        · by_cases hjx : j < x
          · exact hs'.eq i j (by omega) q2 hjx
          · have hj' : j = x := by omega
            subst hj'
            refine ⟨?_, tl' i j q2 (by omega) (by omega)⟩
            by_cases hi' : i = j - 1
            · rw [hi', heqx]
            · rw [heqx]
              exact (hs'.eq i (j - 1) (by omega) (by omega) (by omega)).1
        · by_cases hjx : j < x
          · exact hs'.st i j (by omega) (by omega) hjx
          · have hj' : j = x := by omega
            subst hj'
            rw [heqx]
            exact hs'.st i (j - 1) (by omega) (by omega) (by omega)
theorem descPart2 {st : SortSt} {n nrem : Nat} {Q : Option Nat → SortSt → Prop} (h0 : IntKeys a₀) (hn : nrem ≤ a₀.size) (hnn : n + 1 ≤ nrem) (hB : SBase a₀ st)
    (hs : DI τ (arrOf st) (n + 1) 0) (tl : Tl τ (arrOf st) (n + 1) a₀.size) (h : ∀ m st', SBase a₀ st' → 1 ≤ m → m ≤ nrem → SS τ (arrOf st') m → Tl τ (arrOf st') m a₀.size → Q (some m) st') :
    wpS (model prog w) A E s (descPart n nrem) Q st := by
  unfold descPart
  refine wpS_bind (wpS_lift (wpAny_rule ⟨rfl, ?_⟩))
  refine wpS_bind (descLoop2 h0 hn (by omega) hnn hB hs tl fun m neq st' hB' hm1 hm2 hs' tl' => ?_)
  dsimp only
  have hsz : m ≤ (arrOf st').size := by rw [hB'.size]; omega
  by_cases hneq : neq > 0
  · rw [if_pos hneq]
    exact wpS_bind (wpS_reverse (tail32 h0 hn (by omega) hm2 (hB'.setArr (mirror_perm _ _ _ _)) (hs'.turn hsz) (tl'.mirror hsz) h))
  · rw [if_neg hneq]
    have e0 : neq = 0 := by omega
    subst e0
    exact tail32 h0 hn (by omega) hm2 hB' hs'.rs tl' h
theorem countRun2 {st : SortSt} {nrem : Nat} {Q : Option Nat → SortSt → Prop} (h0 : IntKeys a₀) (hn : nrem ≤ a₀.size) (h1 : 1 ≤ nrem) (hB : SBase a₀ st) (tl : Tl τ (arrOf st) 0 a₀.size)
    (h : ∀ m st', SBase a₀ st' → 1 ≤ m → m ≤ nrem → SS τ (arrOf st') m → Tl τ (arrOf st') m a₀.size → Q (some m) st') :
    wpS (model prog w) A E s (countRun' 0 nrem) Q st := by
  rw [countRun0_eq]
  refine wpS_bind (ascLoop2 h0 hn (Nat.le_refl 1) h1 hB (fun i j hij hj => by omega) (tl.up (by omega)) fun n hn1 hn2 hsn hor => ?_)
  dsimp only
  by_cases hnn : n = nrem
  · rw [if_pos (by simpa using hnn)]
    exact wpS_pure (h n st hB hn1 hn2 hsn (tl.up (by omega)))
  · rw [if_neg (by simpa using hnn)]
    have hlt : K (arrOf st) n < K (arrOf st) (n - 1) := hor.resolve_left hnn
    have one : ∀ {xs : Array Keyed} {n : Nat}, (∀ i, i < n → K xs n < K xs i) → RS τ xs n → DI τ xs (n + 1) 0 := fun {xs n} hl hr => ⟨fun i j hij hj => by
        by_cases e : j = n
        · subst e; exact .inl (hl i hij)
        · exact hr i j hij (by omega), by omega, fun i j q1 q2 q3 => by omega, fun i j q1 q2 q3 => by
        have : j = n := by omega
        subst this
        exact hl i (by omega)⟩
    by_cases hgt : n > 1
    · rw [if_pos hgt]
      refine wpS_bind (wpS_ltK hB h0 (by omega) (by omega) ?_)
      by_cases hrose : K (arrOf st) 0 < K (arrOf st) (n - 1)
      · simp only [hrose, decide_true, if_true]
        exact wpS_pure (h n st hB hn1 hn2 hsn (tl.up (by omega)))
      · simp only [hrose, decide_false, Bool.false_eq_true, if_false]
        have hsz : n ≤ (arrOf st).size := by rw [hB.size]; omega
        have hall : ∀ k, k < n → K (arrOf st) k = K (arrOf st) (n - 1) := by
          intro k hk
          have a1 := hsn.le (i := 0) (j := k) (by omega) hk
          have a2 := hsn.le (i := k) (j := n - 1) (by omega) (by omega)
          omega
        refine wpS_bind (wpS_reverse (descPart2 h0 hn (by omega) (hB.setArr (mirror_perm _ _ _ _)) (one (fun i hi => ?_) fun i j hij hj => ?_) ((tl.up (Nat.zero_le n)).mirror hsz |>.up (by omega)) h))
        · show K (mirror (arrOf st) _ _ _) n < K (mirror (arrOf st) _ _ _) i
          have e1 := K_mirror (i := 0) hsz n
          have e2 := K_mirror (i := 0) hsz i
          rw [if_neg (by omega)] at e1
          rw [if_pos (by omega), hall _ (by omega)] at e2
          rw [e1, e2]
          exact hlt
        · show K (mirror (arrOf st) _ _ _) j < K (mirror (arrOf st) _ _ _) i ∨ (K (mirror (arrOf st) _ _ _) j = K (mirror (arrOf st) _ _ _) i ∧ T τ (mirror (arrOf st) _ _ _) j < T τ (mirror (arrOf st) _ _ _) i)
          rw [K_mirror hsz, K_mirror hsz, T_mirror hsz, T_mirror hsz, if_pos (by omega), if_pos (by omega), if_pos (by omega), if_pos (by omega)]
          exact .inr ⟨(hall _ (by omega)).trans (hall _ (by omega)).symm, tl _ _ (by omega) (by omega) (by omega)⟩
    · rw [if_neg hgt]
      have hn1' : n = 1 := by omega
      subst hn1'
      exact descPart2 h0 hn (by omega) hB (one (fun i hi => by have : i = 0 := by omega
                                                               subst this; exact hlt) fun i j hij hj => by omega) (tl.up (by omega)) h
theorem binarySort2 {st : SortSt} {n ok : Nat} {Q : Bool → SortSt → Prop} (h0 : IntKeys a₀) (hn : n ≤ a₀.size) (hok : ok ≤ n) (hB : SBase a₀ st) (hs : SS τ (arrOf st) ok) (tl : Tl τ (arrOf st) ok a₀.size)
    (h : ∀ st', SBase a₀ st' → SS τ (arrOf st') n → Q true st') : wpS (model prog w) A E s (binarySort' 0 n ok) Q st := by
  rw [binarySort'_eq]
  simp only [Nat.zero_add]
  refine wpS_bind (wpS_mono (wpS_forRange (I := fun k c st' => c = (none, ()) ∧ SBase a₀ st' ∧ SS τ (arrOf st') (min k n) ∧ Tl τ (arrOf st') (min k n) a₀.size)
    (Q := fun c st' => c = (none, ()) ∧ SBase a₀ st' ∧ SS τ (arrOf st') n) ?step ?fin ?init) ?post)
  case post =>
    rintro c st' ⟨rfl, hB', hs'⟩
    exact wpS_pure (h st' hB' hs')
  case init =>
    refine ⟨rfl, hB, fun i j hij hj => ?_, ?_⟩
    · exact hs i j hij (by omega)
    · by_cases h1 : ok = 0
      · by_cases h2 : n = 0
        · subst h1 h2
          exact tl.up (by omega)
        · exact tl.up (by omega)
      · exact tl.up (by omega)
  case fin =>
    rintro c st' ⟨hc, hB', hs', _⟩
    refine ⟨hc, hB', ?_⟩
    rwa [show min (max (max ok 1) n) n = n by omega] at hs'
  case step =>
    rintro k c st' hak hkn ⟨rfl, hB', hs', tl'⟩
    rw [show min k n = k by omega] at hs' tl'
    have hk : k < a₀.size := by omega
    refine wpS_bind (wpS_mono (wpS_forRange (I := fun x c st'' => st'' = st' ∧ ∃ l r, c = (none, l, r) ∧ l ≤ r ∧ r ≤ k ∧ r - l ≤ k - x ∧
        (∀ i, i < l → K (arrOf st') i ≤ K (arrOf st') k) ∧ (∀ i, r ≤ i → i < k → K (arrOf st') k < K (arrOf st') i))
      (Q := fun c st'' => st'' = st' ∧ ∃ l r, c = (none, l, r) ∧ l ≤ k ∧
        (∀ i, i < l → K (arrOf st') i ≤ K (arrOf st') k) ∧ (∀ i, l ≤ i → i < k → K (arrOf st') k < K (arrOf st') i)) ?istep ?ifin ?iinit) ?ipost)
    case iinit => exact ⟨rfl, 0, k, rfl, by omega, by omega, by omega, fun i hi => by omega, fun i h1 h2 => by omega⟩
    case ifin =>
      rintro c st'' ⟨rfl, l, r, rfl, hlr, hrk, hm, hlo, hhi⟩
      have : l = r := by omega
      subst this
      exact ⟨rfl, l, l, rfl, hrk, hlo, hhi⟩
    case istep =>
      rintro x c st'' _ hxk ⟨rfl, l, r, rfl, hlr, hrk, hm, hlo, hhi⟩
      dsimp only
      by_cases hge : l ≥ r
      · rw [if_pos hge]
        have : l = r := by omega
        subst this
        exact wpS_pure ⟨rfl, l, l, rfl, hrk, hlo, hhi⟩
      · rw [if_neg hge]
        refine wpS_bind (wpS_ltK hB' h0 hk (by omega) ?_)
        by_cases hless : K (arrOf st'') k < K (arrOf st'') ((l + r) / 2)
        · simp only [hless, decide_true, if_true]
          refine wpS_pure ⟨rfl, l, (l + r) / 2, rfl, by omega, by omega, by omega, hlo, fun i h1 h2 => ?_⟩
          exact Int.lt_of_lt_of_le hless (hs'.le h1 h2)
        · simp only [hless, decide_false, Bool.false_eq_true, if_false]
          refine wpS_pure ⟨rfl, (l + r) / 2 + 1, r, rfl, by omega, by omega, by omega, fun i h1 => ?_, hhi⟩
          exact Int.le_trans (hs'.le (i := i) (j := (l + r) / 2) (by omega) (by omega)) (Int.not_lt.mp hless)
    case ipost =>
      rintro c st'' ⟨rfl, l, r, rfl, hlk, hlo, hhi⟩
      show wpS _ _ _ _ (do moveDown' k l; pure (ForInStep.yield (none, ()))) _ _
      rw [moveDown'_eq]
      have hks : k < (arrOf st'').size := by rw [hB'.size]; exact hk
      refine wpS_bind (wpS_modify (wpS_pure ⟨rfl, hB'.setArr (bubble_perm _ _ _), ?_, ?_⟩))
      · rw [show min (k + 1) n = k + 1 by omega]
        intro i j hij hj
        show K (bubble (arrOf st'') k (k - l)) i < K (bubble (arrOf st'') k (k - l)) j ∨ (K (bubble (arrOf st'') k (k - l)) i = K (bubble (arrOf st'') k (k - l)) j ∧ T τ (bubble (arrOf st'') k (k - l)) i < T τ (bubble (arrOf st'') k (k - l)) j)
        rw [K_bubble hks (by omega), K_bubble hks (by omega), T_bubble hks (by omega), T_bubble hks (by omega), show k - (k - l) = l by omega]
        by_cases c1 : i < l
        · rw [if_neg (show ¬ i = l by omega), if_neg (show ¬(l < i ∧ i ≤ k) by omega), if_neg (show ¬ i = l by omega), if_neg (show ¬(l < i ∧ i ≤ k) by omega)]
          by_cases c2 : j = l
          · rw [if_pos c2, if_pos c2]
            have a1 := hlo i c1
            have a2 := tl' i k (by omega) (Nat.le_refl _) hk
            by_cases a3 : K (arrOf st'') i < K (arrOf st'') k
            · exact .inl a3
            · exact .inr ⟨by omega, a2⟩
          · rw [if_neg c2, if_neg c2]
            by_cases c3 : l < j ∧ j ≤ k
            · rw [if_pos c3, if_pos c3]
              exact hs' _ _ (by omega) (by omega)
            · rw [if_neg c3, if_neg c3]
              exact hs' _ _ hij (by omega)
        · have c3 : l < j ∧ j ≤ k := by omega
          rw [if_neg (show ¬ j = l by omega), if_pos c3, if_neg (show ¬ j = l by omega), if_pos c3]
          by_cases c2 : i = l
          · rw [if_pos c2, if_pos c2]
            exact .inl (hhi _ (by omega) (by omega))
          · rw [if_neg c2, if_neg c2, if_pos (show l < i ∧ i ≤ k by omega), if_pos (show l < i ∧ i ≤ k by omega)]
            exact hs' _ _ (by omega) (by omega)
      · rw [show min (k + 1) n = k + 1 by omega]
        intro i j hij hj1 hj2
        show T τ (bubble (arrOf st'') k (k - l)) i < T τ (bubble (arrOf st'') k (k - l)) j
        rw [T_bubble hks (by omega), T_bubble hks (by omega), show k - (k - l) = l by omega, if_neg (show ¬ j = l by omega), if_neg (show ¬(l < j ∧ j ≤ k) by omega)]
        repeat' split
        all_goals exact tl' _ _ (by omega) (by omega) hj2
theorem sortRuns2 {st : SortSt} {Q : Unit → SortSt → Prop} (h0 : IntKeys a₀) (hB : SBase a₀ st) (tl : Tl τ (arrOf st) 0 a₀.size) (h2 : 2 ≤ a₀.size) (h64 : a₀.size < 64)
    (h : ∀ st', (arrOf st').Perm a₀ → failedOf st' = none → SS τ (arrOf st') a₀.size → Q () st') : wpS (model prog w) A E s sortRuns' Q st := by
  rw [sortRuns'_eq]
  refine wpS_bind (wpS_get ?_)
  dsimp only
  have hmr : minRun' a₀.size a₀.size 0 = a₀.size := by
    obtain ⟨f, hf⟩ : ∃ f, a₀.size = f + 1 := ⟨a₀.size - 1, by omega⟩
    have : minRun' (f + 1) a₀.size 0 = a₀.size := by rw [minRun'_succ, if_pos h64]; rfl
    rwa [← hf] at this
  simp only [hB.size, hmr]
  have done : ∀ {st : SortSt}, SBase a₀ st → SS τ (arrOf st) a₀.size → SDone a₀ (setPending st ((pendingOf st).push (0, a₀.size, 0))) ∧ SS τ (arrOf (setPending st ((pendingOf st).push (0, a₀.size, 0)))) a₀.size := fun {st} hB hs =>
    ⟨hB.done fun i j hij hj => hs.le hij hj, hs⟩
  refine wpS_bind (wpS_mono (wpS_forRange
    (I := fun x c st' => (x = 0 ∧ c = (none, 0) ∧ st' = st) ∨ (1 ≤ x ∧ c = (none, a₀.size) ∧ SDone a₀ st' ∧ SS τ (arrOf st') a₀.size))
    (Q := fun c st' => c = (none, a₀.size) ∧ SDone a₀ st' ∧ SS τ (arrOf st') a₀.size) ?step ?fin (.inl ⟨rfl, rfl, rfl⟩)) ?post)
  case fin =>
    rintro c st' (⟨hx, _, _⟩ | ⟨_, hc, hD⟩)
    · omega
    · exact ⟨hc, hD⟩
  case step =>
    rintro x c st' _ hx (⟨rfl, rfl, rfl⟩ | ⟨hx1, rfl, hD⟩)
    · dsimp only
      rw [if_neg (by omega)]
      simp only [Nat.sub_zero, Nat.min_self, Nat.zero_add]
      refine wpS_bind (countRun2 h0 (Nat.le_refl _) (by omega) hB tl fun m st2 hB2 hm1 hm2 hs2 tl2 => ?_)
      dsimp only
      by_cases hlt : m < a₀.size
      · rw [if_pos hlt]
        refine wpS_bind (wpS_lift (wpAny_rule ⟨rfl, ?_⟩))
        refine wpS_bind (binarySort2 h0 (Nat.le_refl _) hm2 hB2 hs2 tl2 fun st3 hB3 hs3 => ?_)
        simp only [Bool.not_true, Bool.false_eq_true, if_false]
        refine wpS_bind (wpS_get ?_)
        have hb : (pendingOf st3).back? = none := by rw [hB3.pend]; rfl
        rw [hb]
        dsimp only
        exact wpS_bind (wpS_modify (wpS_pure (.inr ⟨by omega, rfl, done hB3 hs3⟩)))
      · rw [if_neg hlt]
        have hm : m = a₀.size := by omega
        subst hm
        refine wpS_bind (wpS_get ?_)
        have hb : (pendingOf st2).back? = none := by rw [hB2.pend]; rfl
        rw [hb]
        dsimp only
        exact wpS_bind (wpS_modify (wpS_pure (.inr ⟨by omega, rfl, done hB2 hs2⟩)))
    · dsimp only
      rw [if_pos (Nat.le_refl _)]
      exact wpS_pure ⟨rfl, hD⟩
  case post =>
    rintro c st' ⟨rfl, hD, hS⟩
    dsimp only
    refine wpS_bind (wpS_mono (wpS_forRange (I := fun _ c st'' => st'' = st' ∧ c = (none, ())) (Q := fun c st'' => st'' = st' ∧ c = (none, ())) ?_ (fun _ _ hh => hh) ⟨rfl, rfl⟩) ?_)
    · rintro x c st'' _ _ ⟨rfl, rfl⟩
      refine wpS_bind (wpS_get ?_)
      rw [if_pos (by rw [hD.2.2.1]; exact Nat.le_refl 1)]
      exact wpS_pure ⟨rfl, rfl⟩
    · rintro c st'' ⟨rfl, rfl⟩
      exact wpS_pure (h _ hD.1 hD.2.1 hS)
end
end HS

namespace HS
open PySem PyProof.Rows
section
variable {prog : Program} {w : World} {A : Around} {E : Value → Shared → Prop} {s : Shared} {h₀ : Heap} {L : Addr} {m : Str → Option Value} {news : List (Addr × Obj)} {a kS : Addr} {vs : List Value} {kz : List Int} {keys : Array Value} {e e1 : Nat} {P : PySem.Fin → Shared → Prop}
theorem tailS {st : SortSt} (F : Fr h₀ L s.heap m) (N : News h₀ L s.heap (news ++ [(kS, seqObj "list" keys e), (a, seqObj "list" #[] e1)])) (hka : kS ≠ a) (hnk : ∀ p ∈ news, p.1 ≠ kS) (hna : ∀ p ∈ news, p.1 ≠ a)
    (hsz : keys.size = vs.length) (h64 : vs.length < 64) (hp : (arrOf st).Perm (keys.zip vs.toArray)) (hfl : failedOf st = none)
    (h : ∀ h' tk c, Fr h₀ L h' m → News h₀ L h' ((a, seqObj "list" ((arrOf st).map (·.2)).reverse c) :: news) → P (.done (.ret .none)) { s with heap := h', toks := tk }) :
    wpAny (model prog w) A (ksk_tail a true e1 (.ref kS) st) P E s := by
  have nk := N (kS, seqObj "list" keys e) (List.mem_append_right _ (.head _))
  have na := N (a, seqObj "list" #[] e1) (List.mem_append_right _ (.tail _ (.head _)))
  have Nn : News h₀ L s.heap news := fun p hp => N p (List.mem_append_left _ hp)
  have hsz2 : (arrOf st).size = vs.length := by rw [hp.size_eq, Array.size_zip, hsz, List.size_toArray, Nat.min_self]
  have hout : (((arrOf st).map (·.2)).reverse).size = vs.length := by simp only [Array.size_reverse, Array.size_map]; exact hsz2
  have s1 := Heap.SameBut.update s.heap kS (Obj.mapSeq fun _ => (#[] : Array Value))
  have na1 : (s.heap.update kS (Obj.mapSeq fun _ => (#[] : Array Value))).get? a = some (seqObj "list" #[] e1) := (s1.2 a hka.symm).trans na.1
  have s2 := Heap.SameBut.update (s.heap.update kS (Obj.mapSeq fun _ => (#[] : Array Value))) a (Obj.mapSeq fun _ => ((arrOf st).map (·.2)).reverse)
  obtain ⟨c2, hc2⟩ : ∃ c2, ((s.heap.update kS (Obj.mapSeq fun _ => (#[] : Array Value))).update a (Obj.mapSeq fun _ => ((arrOf st).map (·.2)).reverse)).get? a = some (seqObj "list" ((arrOf st).map (·.2)).reverse c2) :=
    ⟨_, get?_update_seq na1 fun _ => ((arrOf st).map (·.2)).reverse⟩
  have N2 := ksk_news (ksk_news Nn s1 hnk) s2 hna
  unfold ksk_tail
  try dsimp only
  refine wpAny_bind (listUpdate_at nk.1 rfl ?_ (by rw [hsz, sizeLine_eq]; omega) (Nat.zero_le _))
  refine wpAny_bind (wpAny_letGo ?_)
  refine wpAny_bind (seqEpoch_at na1 rfl ?_)
  refine wpAny_bind (listUpdate_at na1 rfl ?_ (Nat.zero_le _) (Nat.le_trans (Nat.le_of_eq hout) (by rw [sizeLine_eq]; omega)))
  rw [hfl]
  simp only [bne_self_eq_false, Bool.false_eq_true, if_false]
  refine wpAny_pure (h _ _ c2 (ksk_fr (ksk_fr F s1 nk.2.1 nk.2.2) s2 na.2.1 na.2.2) (fun p hp => ?_))
  rcases List.mem_cons.mp hp with rfl | hp
  · exact ⟨hc2, na.2⟩
  · exact N2 p hp
theorem endS {τ : Keyed → Int} (F : Fr h₀ L s.heap m) (N : News h₀ L s.heap (news ++ [(kS, seqObj "list" keys e), (a, seqObj "list" #[] e1)])) (hka : kS ≠ a) (hnk : ∀ p ∈ news, p.1 ≠ kS) (hna : ∀ p ∈ news, p.1 ≠ a)
    (hk : IntsAre keys.toList kz) (hlen : kz.length = vs.length) (h64 : vs.length < 64) (tl : Tl τ (keys.zip vs.toArray).reverse 0 vs.length)
    (h : ∀ h' tk c (xs : Array Keyed), xs.Perm (keys.zip vs.toArray) → SS τ xs xs.size → Fr h₀ L h' m → News h₀ L h' ((a, seqObj "list" (xs.map (·.2)).reverse c) :: news) → P (.done (.ret .none)) { s with heap := h', toks := tk }) :
    wpAny (model prog w) A (ksk_end a true vs.toArray e1 (.ref kS) keys) P E s := by
  have hsz : keys.size = vs.length := by
    have h1 := hk.length
    rw [Array.length_toList] at h1
    omega
  have hzs : (keys.zip vs.toArray).size = vs.length := by rw [Array.size_zip, hsz, List.size_toArray, Nat.min_self]
  have hstart : (keys.zip vs.toArray).reverse.Perm (keys.zip vs.toArray) := Array.perm_iff_toList_perm.mpr (by rw [Array.toList_reverse]; exact List.reverse_perm _)
  unfold ksk_end
  try dsimp only
  rw [if_pos rfl]
  refine wpAny_bind (wpAny_rule ?_)
  by_cases h2 : vs.toArray.size < 2
  · rw [if_pos h2, if_pos h2]
    refine wpAny_bind (wpAny_pure ?_)
    rw [StateT.run_pure]
    refine wpAny_bind (wpAny_pure ?_)
    try dsimp only
    refine tailS (st := SortSt.mk' general' (if true = true then (keys.zip vs.toArray).reverse else keys.zip vs.toArray) #[] 7 none) F N hka hnk hna hsz h64 (by rw [if_pos rfl]; exact hstart) rfl fun h' tk c F' N' => h h' tk c _ (by rw [if_pos rfl]; exact hstart) (fun i j hij hj => ?_) F' N'
    rw [if_pos rfl, hstart.size_eq, hzs] at hj
    rw [List.size_toArray] at h2
    omega
  · rw [if_neg h2, if_neg h2]
    rw [List.size_toArray] at h2
    rw [ksk_kind hk (by rw [hsz]; omega)]
    refine wpAny_bind (wpAny_pure ?_)
    refine wpAny_bind (wpAny_mono (sortRuns2 (τ := τ) (a₀ := keys.zip vs.toArray) (st := SortSt.mk' oneType' (if true = true then (keys.zip vs.toArray).reverse else keys.zip vs.toArray) #[] 7 none)
      (Q := fun _ st' => (arrOf st').Perm (keys.zip vs.toArray) ∧ failedOf st' = none ∧ SS τ (arrOf st') (keys.zip vs.toArray).size)
      (ksk_intKeys hk) ⟨by rw [if_pos rfl]; exact hstart, rfl, rfl, rfl⟩ (by rw [if_pos rfl, hzs]; exact tl) (by rw [hzs]; omega) (by rw [hzs]; exact h64) fun st' a1 a2 a3 => ⟨a1, a2, a3⟩) ?_ fun _ _ e => e)
    rintro ⟨_, st'⟩ s' ⟨rfl, hp, hf, hs⟩
    try dsimp only
    exact tailS F N hka hnk hna hsz h64 hp hf fun h' tk c F' N' => h h' tk c _ hp (by rw [hp.size_eq]; exact hs) F' N'
end
end HS
namespace L2
open PySem PySem.Spec PySem.Calls PyProof.Rows
section
variable {X : Cx} {pins : List (Addr × Obj)} {σ : St} {H : Hp} {s : Shared}
abbrev StO (p q : Int × Int) : Prop := q.1 < p.1 ∨ (q.1 = p.1 ∧ p.2 < q.2)
/-- sorted(xs, key=f[, reverse=b]) where f is called under the invariant -/
theorem inv_sortedI {a f : Addr} {fo : Obj} {ns : List Int} {kz : List Int} {kw : List (Str × Value)} {Q : VK} (I : Inv X pins σ H s) (hl : SqL X.K H a (ns.map V.int)) (asc : ns.Pairwise (· < ·)) (hlen : kz.length = ns.length) (h64 : ns.length < 64)
    (hf : s.heap.get? f = some fo) (hfn : H f = none) (hfs : f ∉ frs X.stack)
    (ha1 : argsOk "sorted" ⟨[.ref a], kw⟩) (ha2 : ∀ x, argsOk "list.sort" ⟨[.ref x], kw⟩) (ht : ∀ x, Builtin.«list.sort» ⟨[.ref x], kw⟩ = ksk_tree x (.ref f) true)
    (turn : ∀ (i : Nat) (n : Int) (u : Value) (k : Int), ns[i]? = some n → RelV (.int n) u → kz[i]? = some k → ∀ (H1 : Hp) (s1 : Shared), Inv X pins σ H1 s1 → Same H H1 → s1.heap.get? f = some fo → H1 f = none →
      wpAny (model X.prog X.w) X.A.in1.in1 (call (.ref f) [u]) (fun u' s' => CE X.stack X.prog X.w H1 s1 (fun y H2 => y = .int k ∧ Same H1 H2) u' s') (fun _ _ => False) s1)
    (q : ∀ (D : Addr) (ps : List (Int × Int)) (H' : Hp), ps.Perm (kz.zip ns) → ps.Pairwise StO → Same H H' → H D = none → H' D = some (.lst ((ps.map (·.2)).map V.int)) → Q (.ref D) H') :
    wpAny (model X.prog X.w) X.A (call (.builtin "sorted") [.ref a] kw) (EP X pins σ Q) X.xe s := by
  obtain ⟨its, r, pl, hz⟩ := I.list hl
  have rl := r.length
  rw [List.length_map] at rl
  have hI : IntsAre its ns := intsAre_of r
  refine call_function_entry_kw kind_sorted plain_sorted entry_sorted ha1 ?_
  unfold Builtin.«sorted»
  refine wpAny_bind (m := checkCount "sorted" 1 1 _) (wpAny_pure ?_)
  refine wpAny_bind (collect_list pl.isList ?_ (by rw [sizeLine_eq]; omega))
  refine wpAny_bind (wpAny_newList ?_ (by rw [sizeLine_eq]; omega))
  have hsz : ((s.heap.push (seqObj "list" #[] 0)).update s.heap.objs.size (Obj.mapSeq (· ++ its.toArray))).objs.size = s.heap.objs.size + 1 := by
    rw [Heap.size_update, size_push']
  have hoL : (((s.heap.push (seqObj "list" #[] 0)).update s.heap.objs.size (Obj.mapSeq (· ++ its.toArray))).push (seqObj "list" its.toArray 0)).get? (s.heap.objs.size + 1) = some (seqObj "list" its.toArray 0) := by
    rw [← hsz]; exact Heap.get?_push_size _ rfl
  have keep : ∀ b o, s.heap.get? b = some o → (((s.heap.push (seqObj "list" #[] 0)).update s.heap.objs.size (Obj.mapSeq (· ++ its.toArray))).push (seqObj "list" its.toArray 0)).get? b = some o := fun b o q => by
    have hlt : b < s.heap.objs.size := Heap.lt_size q
    rw [Heap.get?_push_ne _ _ _ (by rw [hsz]; exact Nat.ne_of_lt (Nat.lt_succ_of_lt hlt)), Heap.get?_update_ne _ _ _ _ (Nat.ne_of_lt hlt), Heap.get?_push_ne _ _ _ (Nat.ne_of_lt hlt)]
    exact q
  have hsA : (((s.heap.push (seqObj "list" #[] 0)).update s.heap.objs.size (Obj.mapSeq (· ++ its.toArray))).push (seqObj "list" its.toArray 0)).objs.size = s.heap.objs.size + 2 := by rw [size_push', hsz]
  show wpAny _ _ _ _ _ { s with heap := ((s.heap.push (seqObj "list" #[] 0)).update s.heap.objs.size (Obj.mapSeq (· ++ its.toArray))).push (seqObj "list" its.toArray 0) }
  rw [hsz]
  generalize ((s.heap.push (seqObj "list" #[] 0)).update s.heap.objs.size (Obj.mapSeq (· ++ its.toArray))).push (seqObj "list" its.toArray 0) = hA at hoL keep hsA ⊢
  refine wpAny_bind (wpAny_holding (wpAny_call_entry_kw slot_list_sort ⟨_, hoL, rfl⟩ entry_list_sort ?body (ha2 _)))
  case body =>
    have ht' := ht (s.heap.objs.size + 1)
    show wpAny (model X.prog X.w) X.A.in1.in1 (Builtin.«list.sort» ⟨[.ref (s.heap.objs.size + 1)], kw⟩) _ _ _
    rw [ht']
    have s1 := Heap.SameBut.update hA (s.heap.objs.size + 1) (Obj.mapSeq fun _ => (#[] : Array Value))
    obtain ⟨e1, ho1⟩ : ∃ e1, (hA.update (s.heap.objs.size + 1) (Obj.mapSeq fun _ => (#[] : Array Value))).get? (s.heap.objs.size + 1) = some (seqObj "list" #[] e1) := ⟨_, get?_update_seq hoL fun _ => #[]⟩
    have hsB : (hA.update (s.heap.objs.size + 1) (Obj.mapSeq fun _ => (#[] : Array Value))).objs.size = s.heap.objs.size + 2 := by rw [Heap.size_update, hsA]
    unfold ksk_tree
    refine wpAny_bind (listItems_at hoL rfl ?_)
    refine wpAny_bind (listUpdate_at hoL rfl ?_ (by rw [List.size_toArray, sizeLine_eq]; omega) (Nat.zero_le _))
    have kB : ∀ b o, s.heap.get? b = some o → (hA.update (s.heap.objs.size + 1) (Obj.mapSeq fun _ => (#[] : Array Value))).get? b = some o := fun b o e => (s1.2 b (Nat.ne_of_lt (Nat.lt_succ_of_lt (Heap.lt_size e)))).trans (keep b o e)
    dsimp only
    generalize hA.update (s.heap.objs.size + 1) (Obj.mapSeq fun _ => (#[] : Array Value)) = hB at ho1 hsB kB ⊢
    refine wpAny_bind (seqEpoch_at ho1 rfl ?_)
    refine wpAny_bind (wpAny_newTuple ?_ (by show its.length ≤ _; rw [sizeLine_eq]; omega))
    refine wpAny_bind (wpAny_newList ?_ (Nat.zero_le _))
    refine wpAny_holding ?_
    have hsT : (hB.push (seqObj "tuple" its.toArray 0)).objs.size = s.heap.objs.size + 3 := by rw [size_push', hsB]
    have kC : ∀ b o, hB.get? b = some o → ((hB.push (seqObj "tuple" its.toArray 0)).push (seqObj "list" #[] 0)).get? b = some o := fun b o e => Heap.get?_push_of_some _ (Heap.get?_push_of_some _ e)
    have hkS : ((hB.push (seqObj "tuple" its.toArray 0)).push (seqObj "list" #[] 0)).get? (s.heap.objs.size + 3) = some (seqObj "list" #[] 0) := by rw [← hsT]; exact Heap.get?_push_size _ rfl
    show wpAny _ _ (ksk_rest (s.heap.objs.size + 1) (.ref f) true its.toArray e1 (.ref (hB.push (seqObj "tuple" its.toArray 0)).objs.size)) _ _ { s with heap := (hB.push (seqObj "tuple" its.toArray 0)).push (seqObj "list" #[] 0) }
    rw [hsT]
    generalize (hB.push (seqObj "tuple" its.toArray 0)).push (seqObj "list" #[] 0) = hC at kC hkS ⊢
    have hoD := kC _ _ ho1
    have kD : ∀ b o, s.heap.get? b = some o → hC.get? b = some o := fun b o e => kC b o (kB b o e)
    clear kC kB s1 ho1 hoL keep hsA hsB hsT hsz
    have szs := I.sz
    have ltL : @LT.lt Nat _ X.env.locals s.heap.objs.size := I.lt
    have fD : H (s.heap.objs.size + 1) = none := I.hok.fresh (by omega)
    have fK : H (s.heap.objs.size + 3) = none := I.hok.fresh (by omega)
    have nfD : s.heap.objs.size + 1 ∉ frs X.stack := fun z => absurd (frs_lt I z) (anl (by omega))
    have nfK : s.heap.objs.size + 3 ∉ frs X.stack := fun z => absurd (frs_lt I z) (anl (by omega))
    have cl : ∀ x c, X.env.cells.lookup x = some c → @LT.lt Nat _ c s.heap.objs.size := fun x c e => by
      obtain ⟨v, o, ho, _⟩ := I.cell x c e
      exact Heap.lt_size ho
    have pl' : ∀ p ∈ X.pn ++ pins, @LT.lt Nat _ p.1 s.heap.objs.size := fun p hp => Heap.lt_size (I.pin p hp).1
    have hch : ∀ n : Nat, 1 ≤ n → (s.heap.objs.size + n ≠ X.env.locals) ∧ (∀ x c, X.env.cells.lookup x = some c → c ≠ s.heap.objs.size + n) ∧ ∀ p ∈ X.pn ++ pins, p.1 ≠ s.heap.objs.size + n := fun n hn => ⟨ane (by omega), fun x c e => (by have := cl x c e; exact ane (by omega)), fun p hp => (by have := pl' p hp; exact ane (by omega))⟩
    have I0 : Inv X pins σ H { s with heap := hC } := I.kept (t' := s.toks) kD
    unfold ksk_rest
    refine wpAny_bind (wpAny_rule ?_)
    first
      | rw [List.forIn_toArray]
      | (rw [← Array.forIn_toList]; simp only [List.toList_toArray])
      | rw [← Array.forIn_toList]
    refine wpAny_bind (ksk_fold (fun i s' => ∃ (Hi : Hp) (kA : Array Value) (e : Nat), Inv X pins σ Hi s' ∧ Same H Hi ∧ s'.heap.get? (s.heap.objs.size + 1) = some (seqObj "list" #[] e1) ∧ Hi (s.heap.objs.size + 1) = none ∧ s'.heap.get? (s.heap.objs.size + 3) = some (seqObj "list" kA e) ∧ Hi (s.heap.objs.size + 3) = none ∧ IntsAre kA.toList (kz.take i) ∧ s'.heap.get? f = some fo ∧ Hi f = none) its 0 _
      ⟨H, #[], 0, I0, Same.refl _, hoD, fD, hkS, fK, by simpa using IntsAre.nil, kD _ _ hf, hfn⟩ ?step ?done)
    case step =>
      rintro j x s' hx ⟨Hi, kA, e, Ii, sm, hD, nD, hK, nK, hk, hfo, nf⟩
      simp only [Nat.zero_add] at hk ⊢
      have hj : j < its.length := (List.getElem?_eq_some_iff.mp hx).1
      obtain ⟨k, hkj⟩ : ∃ k, kz[j]? = some k := ⟨_, List.getElem?_eq_getElem (by omega)⟩
      obtain ⟨v, hv⟩ : ∃ v, ns[j]? = some v := ⟨_, List.getElem?_eq_getElem (by omega)⟩
      obtain ⟨u, hu, ru⟩ := r.get (x := .int v) (by rw [List.getElem?_map, hv]; rfl)
      rw [hx] at hu
      cases hu
      have hz' : kA.size ≤ its.length := by
        have h1 := hk.length
        rw [Array.length_toList, List.length_take] at h1
        omega
      refine wpAny_bind (wpAny_attempt (wpAny_mono (turn j v x k hv ru hkj Hi s' Ii sm hfo nf) (fun u' s'' he => ?_) fun _ _ hF => hF.elim))
      obtain ⟨y, H2, os, bare, un, hok, ry, rfl, sm2⟩ := he
      obtain ⟨t2, rfl⟩ := ry
      try dsimp only
      have I2 : Inv X pins σ H2 s'' := Ii.call' (ch := []) os un hok bare (fun b z => absurd z (by simp))
      have hD2 := un.keep _ _ hD nD nfD (by simp)
      have hK2 := un.keep _ _ hK nK nfK (by simp)
      have hf2 := un.keep _ _ hfo nf hfs (by simp)
      have nD2 := un.free _ _ hD nD (by simp)
      have nK2 := un.free _ _ hK nK (by simp)
      have nf2 := un.free _ _ hfo nf (by simp)
      have sB := Heap.SameBut.update s''.heap (s.heap.objs.size + 3) (Obj.mapSeq (·.push (.int k t2)))
      obtain ⟨c2, hc2⟩ : ∃ c2, (s''.heap.update (s.heap.objs.size + 3) (Obj.mapSeq (·.push (.int k t2)))).get? (s.heap.objs.size + 3) = some (seqObj "list" (kA.push (.int k t2)) c2) := ⟨_, get?_update_seq hK2 (·.push (.int k t2))⟩
      have ek : kz.take (j + 1) = kz.take j ++ [k] := by rw [List.take_add_one, hkj]; simp
      have ea : (kA.push (Value.int k t2)).toList = kA.toList ++ [Value.int k t2] := by simp
      refine wpAny_bind (listUpdate_at hK2 rfl ?_ (by rw [sizeLine_eq]; omega) (Nat.le_trans (Nat.le_of_eq (Array.size_push ..)) (by rw [sizeLine_eq]; omega)))
      have h3 := hch 3 (by omega)
      refine wpAny_pure ⟨rfl, H2, kA.push (.int k t2), c2, I2.poke (tk := s''.toks) (by omega) h3.1 h3.2.1 h3.2.2 nK2 sB, sm.trans sm2, (sB.2 _ (ane (by omega))).trans hD2, nD2, hc2, nK2, by rw [ea, ek]; exact ksk_snoc hk, (sB.2 _ ?_).trans hf2, nf2⟩
      have : @LT.lt Nat _ f s.heap.objs.size := Heap.lt_size hf
      exact ane (by omega)
    case done =>
      rintro s' ⟨Hi, kA, e, Ii, sm, hD, nD, hK, nK, hk, hfo, nf⟩
      have hk' : IntsAre kA.toList kz := by
        have e3 : kz.take (0 + its.length) = kz := List.take_of_length_le (by omega)
        rw [e3] at hk
        exact hk
      try dsimp only
      refine wpAny_bind (listItems_at hK rfl ?_)
      obtain ⟨m, F0⟩ := Ii.fr
      have b0 : ∀ n : Nat, 1 ≤ n → X.base.get? (s.heap.objs.size + n) = none := fun n hn => Heap.get?_none_of_le (by have := I.ok.bsz; omega)
      have N0 : News X.base X.env.locals s'.heap (((allNews X.base s'.heap X.env.locals).filter fun p => decide (p.1 ≠ s.heap.objs.size + 3 ∧ p.1 ≠ s.heap.objs.size + 1)) ++ [(s.heap.objs.size + 3, seqObj "list" kA e), (s.heap.objs.size + 1, seqObj "list" #[] e1)]) := fun p hp => by
        rcases List.mem_append.mp hp with hp | hp
        · exact news_all p (List.mem_filter.mp hp).1
        · rcases List.mem_cons.mp hp with rfl | hp
          · exact ⟨hK, (hch 3 (by omega)).1, b0 3 (by omega)⟩
          · rw [List.mem_singleton.mp hp]
            exact ⟨hD, (hch 1 (by omega)).1, b0 1 (by omega)⟩
      have kl : kA.size = its.length := by
        have h1 := hk'.length
        rw [Array.length_toList] at h1
        omega
      have tl : HS.Tl (fun p => - numOf p.2) (kA.zip its.toArray).reverse 0 its.length := fun i j hij _ hj => by
        have at' : ∀ i, i < its.length → HS.T (fun p : Keyed => - numOf p.2) (kA.zip its.toArray).reverse i = - ns.getD (its.length - 1 - i) 0 := fun i hi => by
          unfold HS.T
          have hz : (kA.zip its.toArray).size = its.length := by rw [Array.size_zip, kl, List.size_toArray, Nat.min_self]
          have e1 : (kA.zip its.toArray).reverse[i]? = (kA.zip its.toArray)[its.length - 1 - i]? := by rw [Array.getElem?_reverse (by rw [hz]; exact hi), hz]
          obtain ⟨n, hn⟩ : ∃ n, ns[its.length - 1 - i]? = some n := ⟨_, List.getElem?_eq_getElem (by omega)⟩
          obtain ⟨t, ht⟩ := hI.get _ n hn
          obtain ⟨kk, hkk⟩ : ∃ kk, kA[its.length - 1 - i]? = some kk := ⟨_, getElem?_pos _ _ (by omega)⟩
          have e2 : (kA.zip its.toArray)[its.length - 1 - i]? = some (kk, .int n t) := by
            rw [Array.getElem?_zip_eq_some]
            exact ⟨hkk, by simpa using ht⟩
          rw [e1, e2]
          simp [numOf, hn]
        rw [at' i (by omega), at' j (by omega)]
        have := List.pairwise_iff_getElem.mp asc (its.length - 1 - j) (its.length - 1 - i) (by omega) (by omega) (by omega)
        rw [List.getD_eq_getElem?_getD, List.getD_eq_getElem?_getD, List.getElem?_eq_getElem (show its.length - 1 - i < ns.length by omega), List.getElem?_eq_getElem (show its.length - 1 - j < ns.length by omega)]
        show - ns[its.length - 1 - i] < - ns[its.length - 1 - j]
        omega
      refine HS.endS (τ := fun p => - numOf p.2) F0 N0 (ane (by omega)) (fun p hp => (of_decide_eq_true (List.mem_filter.mp hp).2).1) (fun p hp => (of_decide_eq_true (List.mem_filter.mp hp).2).2) hk' (by omega) (by omega) tl fun h3 tk3 c xs xp xss F3 N3 => ⟨_, rfl, ?_⟩
      have xl : xs.toList.Perm (kA.toList.zip its) := by rw [← ksk_zip]; exact Array.perm_iff_toList_perm.mp xp
      have xi : ∀ p ∈ xs.toList, ∃ n t, p.2 = .int n t := fun p hp => by
        have := xl.mem_iff.mp hp
        obtain ⟨p1, p2⟩ := p
        exact hI.all _ (List.of_mem_zip this).2
      have ez : (kA.toList.zip its).map (fun p : Keyed => (numOf p.1, numOf p.2)) = kz.zip ns := by
        rw [← hk'.nums, ← hI.nums, List.zip_map]
        rfl
      generalize hqs : (xs.toList.map fun p : Keyed => (numOf p.1, numOf p.2)).reverse = qs at *
      have qp : qs.Perm (kz.zip ns) := by
        rw [← hqs, ← ez]
        exact (List.reverse_perm _).trans (xl.map _)
      have qw : qs.Pairwise StO := by
        rw [← hqs, List.pairwise_reverse, List.pairwise_map, List.pairwise_iff_getElem]
        intro i j hi hj hij
        have hi' : i < xs.size := by simpa using hi
        have hj' : j < xs.size := by simpa using hj
        have z := xss i j hij hj'
        rw [K_eq hi', K_eq hj'] at z
        have ti : HS.T (fun p : Keyed => - numOf p.2) xs i = - numOf xs[i].2 := by unfold HS.T; rw [getElem?_pos xs i hi']
        have tj : HS.T (fun p : Keyed => - numOf p.2) xs j = - numOf xs[j].2 := by unfold HS.T; rw [getElem?_pos xs j hj']
        rw [ti, tj] at z
        simp only [Array.getElem_toList]
        show numOf xs[i].1 < numOf xs[j].1 ∨ (numOf xs[i].1 = numOf xs[j].1 ∧ numOf xs[j].2 < numOf xs[i].2)
        rcases z with z | ⟨z1, z2⟩
        · exact .inl z
        · exact .inr ⟨z1, by omega⟩
      have ql : qs.length ≤ 1000 := by rw [qp.length_eq, List.length_zip]; omega
      have va : Vals ((qs.map (·.2)).map V.int) ((xs.map (·.2)).reverse).toList := by
        have e4 : ((xs.map (·.2)).reverse).toList = (xs.toList.map (·.2)).reverse := by rw [Array.toList_reverse, Array.toList_map]
        rw [e4, ← hqs, List.map_reverse, List.map_reverse, List.map_map, List.map_map]
        refine Vals.reverse ?_
        have : ∀ l : List Keyed, (∀ p ∈ l, ∃ n t, p.2 = .int n t) → Vals (l.map (V.int ∘ (fun p : Int × Int => p.2) ∘ fun p : Keyed => (numOf p.1, numOf p.2))) (l.map (·.2)) := fun l => by
          induction l with
          | nil => intro _; exact .nil
          | cons p l ih =>
            intro hl
            obtain ⟨n, t, e⟩ := hl p (List.mem_cons_self ..)
            refine .cons ?_ (ih fun q hq => hl q (List.mem_cons_of_mem _ hq))
            show RelV (.int (numOf p.2)) p.2
            rw [e]
            exact ⟨t, rfl⟩
        exact this _ xi
      have keep : ∀ b o, b ≠ X.env.locals → b ≠ s.heap.objs.size + 3 → b ≠ s.heap.objs.size + 1 → s'.heap.get? b = some o → h3.get? b = some o := fun b o nb n3 n1 e => by
        cases q : X.base.get? b with
        | some u =>
          have := Ii.bk b u q
          rw [e] at this; cases this
          exact F3.keep b _ q
        | none => exact (N3 (b, o) (List.mem_cons_of_mem _ (List.mem_filter.mpr ⟨mem_allNews nb q e, decide_eq_true ⟨n3, n1⟩⟩))).1
      have oD : h3.get? (s.heap.objs.size + 1) = some (seqObj "list" (xs.map (·.2)).reverse c) := (N3 _ (List.mem_cons_self ..)).1
      have nL : ∀ b u, Hi b = some u → b ≠ X.env.locals := fun b u e => ne_of_none e Ii.free
      have same : ∀ b u, Hi b = some u → upd Hi (s.heap.objs.size + 1) (.lst ((qs.map (·.2)).map V.int)) b = some u := fun b u e => by rw [upd_ne (ne_of_none e nD)]; exact e
      refine wpAny_pure ⟨_, rfl, .ref (s.heap.objs.size + 1), upd Hi (s.heap.objs.size + 1) (.lst ((qs.map (·.2)).map V.int)), ?_, rfl, q _ qs _ qp qw (fun b o e => same b o (sm b o e)) fD upd_same⟩
      refine Ii.step (g' := s'.gens) (d' := s'.drawn) (ch := [s.heap.objs.size + 3, s.heap.objs.size + 1]) (fun b hb => ?_) (fun b o nb _ nc e _ => keep b o nb (fun z => nc (by simp [z])) (fun z => nc (by simp [z])) e) (fun b o nb _ nc e _ => ⟨o.slots, keep b o nb (fun z => nc (by simp [z])) (fun z => nc (by simp [z])) e⟩)
        (fun b o nc _ n => by rw [upd_ne (fun z => nc (by simp [z]))]; exact n) (fun b o nc e => ?_) (fun b xs e => same b _ e) (fun b o u e => same b _ e) (fun b qs' e => ⟨#[], by rw [same b _ e]; simp⟩) (fun m' hm => ?_) (fun b u e => ?_) Ii.bare
      · rcases List.mem_cons.mp hb with rfl | hb
        · exact ⟨.inr (by omega), hch 3 (by omega)⟩
        · rw [List.mem_singleton.mp hb]
          exact ⟨.inr (by omega), hch 1 (by omega)⟩
      · by_cases hbL : b = X.env.locals
        · subst hbL
          obtain ⟨o', _, _, ho', _⟩ := F3.ns
          exact ⟨o', ho'⟩
        · exact ⟨o, keep b o hbL (fun z => nc (by simp [z])) (fun z => nc (by simp [z])) e⟩
      · have e1 := hm.eq_nsMap
        have e2 := F0.ns.eq_nsMap
        rw [e1, ← e2]
        exact F3.ns
      · by_cases hb : b = s.heap.objs.size + 1
        · subst hb
          rw [upd_same] at e; cases e
          refine lst_ok (its := ((xs.map (·.2)).reverse).toList) (e := c) va (by rw [List.length_map, List.length_map]; exact sz1000 ql) ?_
          rw [Array.toArray_toList]
          exact oD
        · rw [upd_ne hb] at e
          refine (Ii.hok b u e).stay (fun d v hd q => keep d v ?_ ?_ ?_ q) (fun d q => same d _ q) fun d xs q => same d _ q
          · rcases hd with z | z
            · rw [z]; exact nL b u e
            · exact nL d _ z
          · rcases hd with z | z
            · rw [z]; exact ne_of_none e nK
            · exact ne_of_none z nK
          · rcases hd with z | z
            · rw [z]; exact hb
            · exact ne_of_none z nD
end
/-- sorted(xs, key=lambda x: .., reverse=b): the name at i is seen in the lambda -/
def tSortI (K : PySem.W.Frag) (P : Addr) (qual : Str) (lpos : Pos) (i : Nat) (te tb : TE) : TE := fun σ H Q => te σ H fun x H1 => ∃ (a : Addr) (ns : List Int) (kz : List Int) (w : V), x = .ref a ∧ SqL K H1 a (ns.map V.int) ∧ ns.Pairwise (· < ·) ∧ ns.length < 64 ∧ kz.length = ns.length ∧ LamT H1 P qual lpos ∧ σ[i]? = some (some w) ∧
  (∀ (j : Nat) (n : Int) (k : Int), ns[j]? = some n → kz[j]? = some k → ∀ H2, SameB P H1 H2 → tb [some (.int n), some w] H2 fun y H3 => y = .int k ∧ Same H2 H3) ∧
  ∀ (p : Addr) (ps : List (Int × Int)) (H2 : Hp), ps.Perm (kz.zip ns) → ps.Pairwise StO → SameB P H1 H2 → LamT H2 P qual lpos → H1 p = none → H2 p = some (.lst ((ps.map (·.2)).map V.int)) → Q (.ref p) H2
theorem pe_sortI {X : Cx} {e : Expr} {te tb : TE} {p pos kp kp2 lpos bp : Pos} {j n i : Nat} {x y qual : Str} {params : Arguments} {body : Expr} {scope : Scope} {c P cc : Addr} (hr : Room (n + 1) X.A) (hg : Gl X "sorted") (hm : X.mg "sorted" = none) (he : PE X e te) (B : LamB X.mg X.base c P)
    (hcode : X.env.code = .ref c) (hq : X.env.qual ++ "<lambda>" = qual) (hcl : closureFor scope X.env = pure [(y, cc)]) (hdef : defaultsOf params X.env = ([], []))
    (hb : ∀ (pm cv ctv u : Value), bindArgs (PySem.W.kla_fn "<lambda>" qual params body scope [(y, cc)] pm cv ctv) ⟨[u], []⟩ = pure [(x, u)])
    (S : LmS scope x y) (xy : x ≠ y) (hN : X.N[i]? = some y) (hkc : X.env.kindOf y = some .cell) (hcc : X.env.cells.lookup y = some cc)
    (hp : ∀ f cd s H, PE (lmX X [x, y] qual scope [(y, cc)] f cd X.A.in1.in1 s H) body tb)
    (h1 : backTo pos (starEach [e] X.env) = (false, eval e X.env) :: backTo pos (starEach [] X.env) := by rfl) (h2 : (backTo pos (starEach [e] X.env)).any (·.1) = false := by rfl) :
    PE X (.Call (.Name "sorted" p) [e] [⟨some "key", .Lambda params body scope lpos, kp⟩, ⟨some "reverse", .Constant (.bool true) j bp, kp2⟩] pos) (tSortI X.K P qual lpos i te tb) := by
  intro pins s σ H Q I h
  refine wpAny_Call_Name_kw (ld_blt I hg hm boot_sorted (callWith_kw ?_ h1 h2 rfl rfl))
  rw [h1]
  refine Calls.spliced_cons (thn (he pins s σ H _ I h) fun v s1 ⟨x1, H1, I1, r1, a, ns, kz, wv, ex, hl, asc, h64, hlen, lt, hsi, hkey, q⟩ => ?_)
  subst ex
  cases r1
  refine Calls.spliced_nil ?_
  -- behind the lambda
  have go : ∀ (f c' : Addr) (ctv : Value) (oc : Obj) (u : HO) (cvs : Array Value) (t : Tok) (h' : Heap) (tk : Nat) (H2 : Hp), f = h'.objs.size → s1.heap.objs.size ≤ h'.objs.size →
      Inv X pins σ H2 { s1 with heap := h'.push (PySem.W.kla_obj "<lambda>" qual params body scope [(y, cc)] ((X.mg "__name__").getD .none) c' ctv), toks := tk } →
      SameB P H1 H2 → H2 P = some (.tbl #[rawInt lpos.line, rawInt lpos.col, .ref c']) → H2 c' = some (.frz oc u) → oc.data = .fields cvs → cvs[1]? = some (.str qual t) → (∀ b, H2 b = none → H1 b = none) → H2 f = none →
      wpAny (model X.prog X.w) X.A (evalAll ((backToKw pos (keywordEach [⟨some "reverse", .Constant (.bool true) j bp, kp2⟩] X.env)).map (·.2)))
        (fun kvs s₂ => wpAny (model X.prog X.w) X.A (call (.builtin "sorted") [.ref a] (((backToKw pos (keywordEach [⟨some "key", .Lambda params body scope lpos, kp⟩, ⟨some "reverse", .Constant (.bool true) j bp, kp2⟩] X.env)).filterMap (·.1)).zip (.ref f :: kvs))) (EP X pins σ Q) X.xe s₂) X.xe
        { s1 with heap := h'.push (PySem.W.kla_obj "<lambda>" qual params body scope [(y, cc)] ((X.mg "__name__").getD .none) c' ctv), toks := tk } := by
    intro f c' ctv oc u cvs t h' tk H2 ef hge I2 sb hP hc' hoc hvs hnn hfn
    have hfo : (h'.push (PySem.W.kla_obj "<lambda>" qual params body scope [(y, cc)] ((X.mg "__name__").getD .none) c' ctv)).get? f = some (PySem.W.kla_obj "<lambda>" qual params body scope [(y, cc)] ((X.mg "__name__").getD .none) c' ctv) := by rw [ef]; exact Heap.get?_push_size _ rfl
    have hfs : f ∉ frs X.stack := fun z => absurd (frs_lt I1 z) (anl (by rw [ef]; exact Nat.not_lt.mpr hge))
    have hfL : f ≠ X.env.locals := fun z => by
      have : @LT.lt Nat _ X.env.locals s1.heap.objs.size := I1.lt
      rw [← z, ef] at this
      exact absurd this (anl (Nat.not_lt.mpr hge))
    have hffs : f ∉ X.fs := fun z => by
      obtain ⟨_, o, e, _⟩ := I1.funs.mem z
      have : @LT.lt Nat _ f s1.heap.objs.size := Heap.lt_size e
      rw [ef] at this
      exact absurd this (anl (Nat.not_lt.mpr hge))
    have I3 : Inv X ((f, PySem.W.kla_obj "<lambda>" qual params body scope [(y, cc)] ((X.mg "__name__").getD .none) c' ctv) :: pins) σ H2 { s1 with heap := h'.push (PySem.W.kla_obj "<lambda>" qual params body scope [(y, cc)] ((X.mg "__name__").getD .none) c' ctv), toks := tk } :=
      I2.pins_of fun p hp' => by
        rcases List.mem_cons.mp hp' with rfl | hp'
        · exact ⟨hfo, hfn, hfL, hffs, fun v z => by cases z⟩
        · exact I2.pin p (List.mem_append_right _ hp')
    refine kws_cons (thn (pe_bl (b := true) _ _ σ H2 (fun v H' => v = .bl true ∧ H' = H2) I3 ⟨rfl, rfl⟩) fun ub s2 ⟨yb, H2', I4, r2, ey, eH⟩ => ?_)
    subst ey eH
    cases r2
    refine kws_nil ?_
    have hl2 : SqL X.K H2' a (ns.map V.int) := by
      rcases hl with hl | hl
      · rcases hl with hl | ⟨o, hl⟩
        · exact .inl (.inl (sb.lst lt hl))
        · exact .inl (.inr ⟨o, sb.frz lt hl⟩)
      · exact .inr hl
    have pin := I4.pin (f, PySem.W.kla_obj "<lambda>" qual params body scope [(y, cc)] ((X.mg "__name__").getD .none) c' ctv) (List.mem_append_right _ (List.mem_cons_self ..))
    refine wpAny_mono (inv_sortedI (Q := Q) (kz := kz) I4 hl2 asc hlen h64 pin.1 pin.2.1 hfs (ksk_s2 _ _ _) (fun _ => ksk_l2 _ _ _) (fun _ => ksk_t2 _ _ _) (fun jj vv uu k hv ru hk Ha sa Ia sma hfa hna => ?_) fun D ps H' pm pw sm hD hD' => ?_) (fun ur s' ⟨vr, Hr, Ir, rr, qr⟩ => ⟨vr, Hr, Ir.pins_of fun p hp' => Ir.pin p (List.mem_append_right _ (List.mem_cons_of_mem _ hp')), rr, qr⟩) fun _ _ z => z
    · obtain ⟨m, hns, hlk⟩ := Ia.loc
      obtain ⟨uy, ry, lk⟩ := hlk i y wv hN hsi (.inr (.inl hkc))
      have ic : sa.heap.IsCell cc (some uy) := by
        rcases lk with ⟨k1, _⟩ | ⟨_, c2, e2, ic⟩
        · rw [hkc] at k1; cases k1
        · rw [hcc] at e2; cases e2; exact ic
      refine lam_callC Ia (A := X.A.in1.in1) Ia.ok.frames hr.hd (by have := hr.dp; show X.A.depth < _; omega) ru ry S xy hfa ⟨c', oc, cvs, t, rfl, (Ia.hok _ _ (sma _ _ hc')).1, hoc, hvs⟩ (hb _ _ _ _) ic (Ia.freeC y cc hcc) (hp f (.ref c') sa Ha) ?_
      exact hkey jj vv k hv hk Ha (sb.trans sma.b)
    · exact q D ps H' pm pw (sb.trans sm.b) (.inr ⟨c', oc, cvs, t, u, sm _ _ hP, sm _ _ hc', hoc, hvs⟩) (hnn _ hD) hD'
  have bmS : s1.heap.BuiltinsAt X.mg P := by
    obtain ⟨bm, o, a1, a2, a3, a4, a5, a6⟩ := B.bm
    exact ⟨bm, o, a1, a2, a3, a4, I1.bk _ _ a5, a6⟩
  refine kws_cons (PySem.W.kla_eval hdef ?_)
  rw [hq]
  rcases lt with lt0 | ⟨c', oc, cvs, t, u, hP, hc', hoc, hvs⟩
  · refine PySem.W.kla_makeFunction (mg := X.mg) hcl I1.ok.glob (I1.mod.glob.keeps I1.bk) hcode (B.code.keeps I1.bk) (show s1.heap.get? P = some (PySem.W.tabObj #[]) from I1.hok _ _ lt0) trivial rfl B.gne bmS fun c' ctv h' tk hx hge hlt hrec htb => ?_
    obtain ⟨c2, oc, cvs, t, e2, hoc', hdv, hv⟩ := hrec
    cases e2
    have hcP : c' ≠ P := fun z => by
      rw [z, htb] at hoc'
      cases hoc'
      have y := I1.hok.lt lt0
      exact absurd (Nat.lt_of_lt_of_le y (z ▸ hge)) (Nat.lt_irrefl _)
    have hcn : H1 c' = none := I1.hok.fresh hge
    have hge2 : s1.heap.objs.size ≤ h'.objs.size := Nat.le_trans hge (Nat.le_of_lt hlt)
    refine go h'.objs.size c' ctv oc (.own 0) cvs t h' tk (upd (upd H1 P (.tbl (#[] ++ #[rawInt lpos.line, rawInt lpos.col, .ref c']))) c' (.frz oc (.own 0))) rfl hge2 ?_ (fun b o n e => ?_) ?_ upd_same hdv hv (fun b e => ?_) ?_
    · refine I1.lamNew lt0 (fun b o n e => Heap.get?_push_of_some _ (hx b o n e)) hge (Heap.get?_push_of_some _ hoc') (Heap.get?_push_of_some _ htb)
    · rw [upd_ne (ne_of_none e hcn), upd_ne n]; exact e
    · rw [upd_ne hcP.symm, upd_same, Array.empty_append]
    · by_cases b1 : b = c'
      · rw [b1, upd_same] at e; cases e
      · rw [upd_ne b1] at e
        by_cases b2 : b = P
        · rw [b2, upd_same] at e; cases e
        · rw [upd_ne b2] at e; exact e
    · have n1 : (h'.objs.size : Addr) ≠ c' := fun z => absurd (z ▸ hlt) (Nat.lt_irrefl _)
      have n2 : (h'.objs.size : Addr) ≠ P := fun z => by
        have := Heap.lt_size htb
        rw [← z] at this
        exact absurd this (Nat.lt_irrefl _)
      rw [upd_ne n1, upd_ne n2]
      exact I1.hok.fresh hge2
  · refine PySem.W.kla_makeFunctionHit (mg := X.mg) (cv := .ref c') hcl I1.ok.glob (I1.mod.glob.keeps I1.bk) hcode (B.code.keeps I1.bk) (show s1.heap.get? P = some (PySem.W.tabObj #[rawInt lpos.line, rawInt lpos.col, .ref c']) from I1.hok _ _ hP) (by simp [TriplesOk, rawInt]) (by simp [codeAmong, rawInt]) bmS fun ctv h' tk hx hge => ?_
    exact go h'.objs.size c' ctv oc u cvs t h' tk H1 rfl hge (I1.kept (fun b o e => Heap.get?_push_of_some _ (hx b o e))) (fun _ _ _ e => e) hP hc' hoc hvs (fun _ e => e) (I1.hok.fresh hge)
end L2

namespace HT
open PySem PySem.Spec PyProof.Rows
section
variable {prog : Program} {w : World} {K : Type} [DecidableEq K] {knd : HeapKind prog w K} {A : Around} {E : Value → Shared → Prop} {s : Shared}
theorem setDefaultH {d a : Addr} {xs : List (K × Addr × Value)} {k : K} {v : Value} {Q : Value → Shared → Prop} (hu : knd.room A) (hkey : knd.is s.heap k a) (hm : s.heap.DictOfH knd d xs) (hsz : xs.length ≤ sizeLine)
    (h1 : ∀ p, atKey xs k = some p → Q p.2 { s with toks := s.toks + knd.draws k })
    (h2 : atKey xs k = none → ∀ h', h'.DictOfH knd d (storedH xs k a v) → Heap.SameBut d s.heap h' → Q v { s with heap := h', toks := s.toks + knd.draws k }) :
    wpAny (model prog w) A (dictSetDefault d (.ref a) v) Q E s := by
  obtain ⟨o, es, ep, ho, hc, hd, he, his, hn⟩ := hm
  unfold dictSetDefault
  try with_reducible refine wpAny_holding ?_
  refine wpAny_bind (knd.pyHash hu hkey ?_)
  refine wpAny_bind (wpAny_dictFind_heap (s := { s with toks := s.toks + knd.draws k }) hu hkey ho hd he his hn ?_ ?_)
  · intro hno
    have hnot : k ∉ xs.map (·.1) := not_mem_keys_of_get hno
    refine wpAny_bind (wpAny_rule (wpAny_bind (wpAny_updateDictKeys (hz := by have e := size_of_entries he; omega) (s := { s with toks := s.toks + knd.draws k }) ho hd (wpAny_pure (h2 (atKey_none_of_get hno) _ ⟨_, _, ep + 1, Heap.get?_update_self _ ho (Obj.isFreed_of_dict (Obj.data_mapDictKeys hd _)),
      hc.mapDictKeys _, Obj.data_mapDictKeys hd _, ?_, ?_, ?_⟩ (Heap.SameBut.update ..))))))
    · rw [storedH_new (atKey_none_of_get hno)]
      simp [he, entryOfKey]
    · rw [storedH_new (atKey_none_of_get hno)]
      intro x hx
      rcases List.mem_append.mp hx with hx | hx
      · exact knd.keeps (his x hx) ho hd (Heap.SameBut.update ..)
      · simp only [List.mem_singleton] at hx
        subst hx
        exact knd.keeps hkey ho hd (Heap.SameBut.update ..)
    · rw [storedH_new (atKey_none_of_get hno)]
      rw [List.map_append, List.nodup_append]
      refine ⟨hn, by simp, ?_⟩
      intro x hx y hy
      simp only [List.map_cons, List.map_nil, List.mem_singleton] at hy
      subst hy
      exact fun e => hnot (e ▸ hx)
  · intro j p hj
    refine wpAny_bind (wpAny_dictEntries (s := { s with toks := s.toks + knd.draws k }) ho hd ?_)
    rw [entry_at he j, hj]
    exact wpAny_bind (wpAny_rule (wpAny_pure (h1 p (atKey_of_get hn hj))))
theorem meetsH_dict_setdefault (d a : Addr) (hd : (d == sysModules) = false) (dflt : Value) : MeetsIn prog w (Builtin.«dict.setdefault» ⟨[.ref d, .ref a, dflt], []⟩) (fun A R s => knd.room A.in1 ∧ ∃ k xs, knd.is s.heap k a ∧ s.heap.DictOfH knd d xs ∧ xs.length ≤ sizeLine ∧
      (∀ p, atKey xs k = some p → R (.ok (.ret p.2)) { s with toks := s.toks + knd.draws k }) ∧
      (atKey xs k = none → ∀ h', h'.DictOfH knd d (storedH xs k a dflt) → Heap.SameBut d s.heap h' → R (.ok (.ret dflt)) { s with heap := h', toks := s.toks + knd.draws k })) :=
  .of_wp fun A R s ⟨hu, k, xs, hkey, hm, hsz, h1, h2⟩ => by
    unfold Builtin.«dict.setdefault»
    refine wpAny_bind ?_
    unfold Builtin.Dict.keyAndDefault
    refine wpAny_bind (wpAny_notOrdered_dict hm.typeIs ?_)
    show wpAny _ _ (pure (d, Value.ref a, some dflt)) _ _ s
    refine wpAny_pure ?_
    show wpAny _ _ (if (d == sysModules) = true then _ else (dictSetDefault d (.ref a) dflt >>= _)) _ _ s
    rw [if_neg (by rw [hd]; exact Bool.false_ne_true)]
    exact wpAny_bind (setDefaultH hu hkey hm hsz (fun p hp => wpAny_pure ⟨p.2, rfl, h1 p hp⟩) fun hn h' hm' hs' => wpAny_pure ⟨dflt, rfl, h2 hn h' hm' hs'⟩)
end
end HT
namespace L2
open PySem PySem.Spec PyProof.Rows
/-- d.setdefault(t, x), the keys tuples -/
def tDSetD (td ty tx : TE) : TE := fun σ H Q => td σ H fun x H1 => ∃ a, x = .ref a ∧ IsD H1 a ∧ ty σ H1 fun y H2 => tx σ H2 fun z H3 => ∃ kvs k b, H3 a = some (.dT kvs) ∧ y = .ref b ∧ H3 b = some (.tup (k.map kV)) ∧ kvs.length < sizeLine ∧
  (∀ v, valV kvs k = some v → Q v H3) ∧ (valV kvs k = none → Q z (upd H3 a (.dT (putK kvs k z))))
section
variable {X : Cx} {o e f : Expr} {apos cpos : Pos} {td ty tx : TE}
theorem pe_dsetdT (hu : X.A.units + 1 < cLine) (ho : PE X o td) (he : PE X e ty) (hf : PE X f tx) (m : M2 X o "setdefault" apos e f cpos) : PE X (.Call (.Attribute o "setdefault" apos) [e, f] [] cpos) (tDSetD td ty tx) := by
  intro pins s σ H Q I h
  refine wpAny_Call_method m.base m.few m.line PySem.F.plainAttrs_dict PySem.F.slot_dict_setdefault PySem.F.type_dict_setdefault (thn (ho pins s σ H _ I h) fun u s1 ⟨x, H1, I1, rx, a, ex, d, q1⟩ => ?_)
  subst ex
  obtain rfl : u = Value.ref a := rx
  obtain ⟨t1, t2, _⟩ := isD_at I1 d
  refine ⟨t1, t2, ?_⟩
  rw [m.trees]
  refine Calls.callWith_builtin rfl (Calls.evalArgs_plain (Calls.spliced_cons (thn (he pins s1 σ H1 _ I1 q1) fun iv s2 ⟨y, H2, I2, ry, q2⟩ =>
    Calls.spliced_cons (thn (hf pins s2 σ H2 _ I2 q2) fun fv s3 ⟨z, H3, I3, rz, kvs, k, b, ea, ey, eb, lk, q3, q4⟩ => Calls.spliced_nil ?_))))
  subst ey
  obtain rfl : iv = Value.ref b := ry
  obtain ⟨zl, hd, xs, rel, dd⟩ := dt_of I3.hok ea
  have hz : xs.length ≤ sizeLine := by rw [← Paired.length rel]; exact zl
  refine call_meetsIn PySem.F.slot_dict_setdefault dd.typeIs PySem.F.entry_dict_setdefault (PySem.F.args_dict_setdefault_3 _ _ _) (HT.meetsH_dict_setdefault (knd := tupleKind (mixKind X.prog X.w)) a b hd fv)
    ⟨tupleKind_room_in1 hu, k, xs, key_of I3.hok eb, dd, hz, fun p hp => ?_, fun hn h' dd' hs => ?_⟩
  · have r := rel.val k
    rw [hp] at r
    cases e1 : valV kvs k with
    | none => rw [e1] at r; exact (show False from r).elim
    | some v => rw [e1] at r; exact ⟨v, H3, I3.tok _, r, q3 v e1⟩
  · have r := rel.val k
    rw [hn] at r
    cases e1 : valV kvs k with
    | some v => rw [e1] at r; exact (show False from r).elim
    | none =>
      have hl : (putK kvs k z).length ≤ sizeLine := by have := length_putK kvs k z; omega
      refine ⟨z, _, ?_, rz, q4 e1⟩
      obtain ⟨q, es, ep, hq, h2, h3, h4, _, h5⟩ := dd'
      refine d_write I3 (by rw [ea]; exact True.intro) hs ⟨q, hq⟩ ⟨hl, hd, _, (rel.put k eb rz).keeps fun c ys ec => ?_, q, es, ep, hq, h2, h3, h4, h5⟩
      rw [upd_ne (ne_of ec ea (fun z => nomatch z))]
      exact ec
end
end L2

namespace L2
open PySem PySem.Spec PyProof.Rows
/-! ### for i, x in enumerate(xs), xs a list -/
/-- the i-th item of a list and i, in a new tuple -/
def Ite (K : PySem.W.Frag) (b : Addr) : It :=
  ⟨fun i H => ∃ ys, SqL K H b ys ∧ i < ys.length,
   fun i H v H' => ∃ T, H T = none ∧ v = .ref T ∧ ∀ ys, SqL K H b ys → ∃ y, ys[i]? = some y ∧ H' = upd H T (.tup [.int i, y]),
   fun i H => ∃ ys, SqL K H b ys ∧ i = ys.length⟩
/-- an enumerate's objects, laid one behind another from n on -/
def EnuSt (n b : Nat) (i : Nat) (h : Heap) : Prop := (∃ old, IsEnum h (n + 1) n (i : Int) old) ∧ h.IsListIter n b i
def iEnu (K : PySem.W.Frag) (ta : TA) : TI := fun σ H R => ta σ H fun vs H1 => ∃ b, vs = [.ref b] ∧ (∃ ys, SqL K H1 b ys) ∧ R (Ite K b) H1
theorem bt_enumerate : bootBuiltins "enumerate" = some (.type "enumerate") := by decide +kernel
end L2

namespace HT
open PySem PySem.Spec PyProof.Rows
open AutoSeq1 (wpAny_loadPart')
theorem meets_enumerate_newT (l : Addr) (items : Array Value) (n : Nat) (dct : Option Addr) (sl : Array (Option Value)) :
    Meets (Builtin.«enumerate.__new__» ⟨[.type "enumerate", .ref l], []⟩) (fun _ R s => s.heap.get? l = some { cls := .type "tuple", dict := dct, data := .seq items n, slots := sl } ∧
      R (.ok (.ret (.ref (s.heap.push { cls := .type "tuple_iterator", data := .fields #[.ref l, .int 0 0] }).objs.size)))
        { s with heap := (s.heap.push { cls := .type "tuple_iterator", data := .fields #[.ref l, .int 0 0] }).push { cls := .type "enumerate", data := .fields #[.none, .bool false, .ref s.heap.objs.size, rawInt 0, .none, .none] } }) :=
  .of_wp fun prog w A R s h => by
    obtain ⟨hp, g, d, tk, os⟩ := s; obtain ⟨hl, h⟩ := h
    have hL : Heap.IsTuple hp l items := ⟨_, hl, rfl, _, rfl⟩
    have hsub := sub_enumerate
    wp_walk using wpAny_loadPart' hl
    refine wpAny_stack_any fun st => wpAny_pure ?_
    split
    · rename_i c _ _ _ _ _
      cases (c == Value.type "enumerate")
      · wp_walk using wpAny_loadPart' hl, wpAny_pyIter_tuple hL
        exact ⟨_, rfl, h⟩
      · wp_walk using wpAny_loadPart' hl, wpAny_pyIter_tuple hL
        exact ⟨_, rfl, h⟩
    · wp_walk using wpAny_loadPart' hl, wpAny_pyIter_tuple hL
      exact ⟨_, rfl, h⟩
section
variable {prog : Program} {w : World} {A : Around} {E : Value → Shared → Prop} {s : Shared}
theorem call_enumerate_tup {l : Addr} {items : Array Value} {Q : Value → Shared → Prop} (hL : s.heap.IsTuple l items)
    (h : ∀ h', IsEnum h' (s.heap.objs.size + 1) s.heap.objs.size 0 .none → h'.IsTupleIter s.heap.objs.size l 0 → h'.objs.size = s.heap.objs.size + 2 →
      (∀ b o, s.heap.get? b = some o → h'.get? b = some o) → Q (.ref (s.heap.objs.size + 1)) { s with heap := h' }) :
    wpAny (model prog w) A (call (.type "enumerate") [.ref l]) Q E s := by
  obtain ⟨⟨c, dct, dt, sl⟩, hl, hc, n, hd⟩ := hL
  replace hc : c = .type "tuple" := hc
  replace hd : dt = .seq items n := hd
  subst hc hd
  refine callType_new F.called_enumerate (by decide) (F.typeCall_enumerate_1 _) (F.newCall_enumerate_1 _) (fun obj => F.args_object_init_2 obj _) F.entry_enumerate_new
    (meets_enumerate_newT l items n dct sl) ⟨hl, ?_⟩
  have hz : (s.heap.push { cls := .type "tuple_iterator", data := .fields #[.ref l, .int 0 0] }).objs.size = s.heap.objs.size + 1 := Heap.size_push ..
  show _ ∧ _
  rw [hz]
  have he : IsEnum ((s.heap.push { cls := .type "tuple_iterator", data := .fields #[.ref l, .int 0 0] }).push
      { cls := .type "enumerate", data := .fields #[.none, .bool false, .ref s.heap.objs.size, rawInt 0, .none, .none] }) (s.heap.objs.size + 1) s.heap.objs.size 0 .none := by
    have := Heap.get?_push_size (s.heap.push { cls := .type "tuple_iterator", data := .fields #[.ref l, .int 0 0] })
      (o := { cls := .type "enumerate", data := .fields #[.none, .bool false, .ref s.heap.objs.size, rawInt 0, .none, .none] }) rfl
    rw [hz] at this; exact this
  refine ⟨⟨_, he, rfl⟩, h _ he ⟨_, Heap.get?_push_of_some _ (Heap.get?_push_size _ rfl), rfl, rfl⟩ (by rw [Heap.size_push, hz]) fun b o x => Heap.get?_push_of_some _ (Heap.get?_push_of_some _ x)⟩
end
end HT
namespace L2
open PySem PySem.Spec PyProof.Rows
/-! ### for i, x in enumerate(xs), xs a list -/
/-- the i-th item of a list and i, in a new tuple -/
def IteT (K : PySem.W.Frag) (b : Addr) : It :=
  ⟨fun i H => ∃ ys, SqT K H b ys ∧ i < ys.length,
   fun i H v H' => ∃ T, H T = none ∧ v = .ref T ∧ ∀ ys, SqT K H b ys → ∃ y, ys[i]? = some y ∧ H' = upd H T (.tup [.int i, y]),
   fun i H => ∃ ys, SqT K H b ys ∧ i = ys.length⟩
/-- an enumerate's objects, laid one behind another from n on -/
def EnuStT (n b : Nat) (i : Nat) (h : Heap) : Prop := (∃ old, IsEnum h (n + 1) n (i : Int) old) ∧ h.IsTupleIter n b i
theorem turn_enumT {P : Program} {w : World} {K : PySem.W.Frag} {es : List Expr} {k1 : Nat} {p1 : Pos} {n b : Nat} (hb : b < n) : Turn P w K (.Tuple es k1 p1) (IteT K b) [n + 1, n] (n + 1) (EnuStT n b) where
  mem := by simp
  obj := fun i h st c hc => by
    obtain ⟨⟨old, c1⟩, ⟨o5, d5, _, f5⟩⟩ := st
    have hc' : c = n + 1 ∨ c = n := by simpa using hc
    rcases hc' with e | e
    · subst e; exact ⟨_, c1, fun v z => by cases z⟩
    · subst e; exact ⟨_, d5, fun v z => by rw [f5] at z; cases z⟩
  keep := fun i h h' st k => by
    obtain ⟨⟨old, c1⟩, c5⟩ := st
    exact ⟨⟨old, k _ (by simp) _ c1⟩, c5.at fun o e => k _ (by simp) o e⟩
  item := by
    intro X hP hw hK hc i pins s σ H E I hf st hg
    subst hP hw hK
    obtain ⟨ys, hy, l2⟩ := hg
    obtain ⟨its', r2, ty, _⟩ := I.tuple hy
    have e2 := r2.length
    obtain ⟨⟨old, c1⟩, c5⟩ := st
    obtain ⟨vy, hvy⟩ : ∃ v, ys[i]? = some v := ⟨_, List.getElem?_eq_getElem l2⟩
    obtain ⟨uy, huy, ry⟩ := r2.get hvy
    have D := drawsTup (prog := X.prog) (w := X.w) (A := X.A.in1) (I.ok.hd hc) n b (by show (_ : Nat) ≠ _; omega) its'.toArray
    refine wpAny_pyNext_enum_itemD D c1 ⟨c5, ty⟩ (by rw [List.size_toArray, ← e2]; exact l2) (by show (_ : Nat) ≠ _; omega) (fun z => by
      rcases List.mem_cons.mp z with z | z
      · exact absurd z (by show (_ : Nat) ≠ _; omega)
      · exact absurd (List.mem_singleton.mp z) (by show (_ : Nat) ≠ _; omega)) fun x g tk hx cz s2 cT sz kp => ⟨.ref s.heap.objs.size, rfl, ?_⟩
    have ex : x = uy := by
      rw [← Array.getElem?_toList, List.toList_toArray, huy] at hx
      exact (Option.some.inj hx).symm
    subst ex
    refine wpAny_letOwnedTupleGo_enum (s := { s with heap := g, toks := tk + 1 }) cz fun g' cz' sb => ?_
    have hfr : H s.heap.objs.size = none := I.hok.fresh (Nat.le_refl _)
    have I0 : Inv X pins σ (upd H s.heap.objs.size (.tup [.int i, vy])) { s with heap := s.heap.push { cls := .type "tuple", data := .seq #[.int i tk, x] }, toks := tk + 1 } :=
      I.laid (fun c u q => Heap.get?_push_of_some _ q) (Nat.le_refl _) ⟨by show 2 ≤ sizeLine; decide, [.int i tk, x], .cons ⟨_, rfl⟩ (.cons ry .nil), ⟨_, Heap.get?_push_size s.heap rfl, rfl, _, rfl⟩⟩
    have lz : n + 1 < s.heap.objs.size := Heap.lt_size c1
    have fpn : ∀ c ∈ [n + 1, n], c ≠ s.heap.objs.size := fun c hc' => by
      have hc'' : c = n + 1 ∨ c = n := by simpa using hc'
      rcases hc'' with e | e <;> (subst e; exact Nat.ne_of_lt (by omega))
    have hf0 : ∀ c ∈ [n + 1, n], FpOk X pins (upd H s.heap.objs.size (.tup [.int i, vy])) c := fun c hc' => ⟨by rw [upd_ne (fpn c hc')]; exact (hf c hc').1, (hf c hc').2⟩
    have I1 : Inv X pins σ (upd H s.heap.objs.size (.tup [.int i, vy])) { s with heap := g', toks := tk + 1 } := by
      refine Inv.turnedL (s := { s with heap := s.heap.push { cls := .type "tuple", data := .seq #[.int i tk, x] }, toks := tk + 1 }) (h' := g') (t' := tk + 1) (ch := [n + 1, n]) I0 (fun c o hc' e => ?_) hf0
      replace e : (s.heap.push { cls := .type "tuple", data := .seq #[.int i tk, x] }).get? c = some o := e
      have hn : ∀ d ∈ [n + 1, n], c ≠ d := fun d hd z => hc' (by rw [z]; exact hd)
      refine sb.extBut _ _ (hn _ (by simp)) ?_
      by_cases ec : c = s.heap.objs.size
      · rw [ec] at e ⊢
        rw [Heap.get?_push_size s.heap rfl] at e
        cases e
        exact cT
      · rw [Heap.get?_push_ne _ _ _ ec] at e
        exact kp c o (hn _ (by simp)) (hn _ (by simp)) e
    refine ⟨.ref s.heap.objs.size, _, I1, rfl, ⟨_, hfr, rfl, fun ys' hy' => ⟨vy, by rw [I.tuple_inj hy' hy]; exact hvy, rfl⟩⟩, ?_, fun c hc' => (hf0 c hc').1⟩
    exact ⟨⟨x, cz'⟩, s2.1.extBut sb.extBut (Nat.ne_of_lt (Nat.lt_succ_self n))⟩
  done := by
    intro X hP hw hK hc i pins s σ H E I hf st hg
    subst hP hw hK
    obtain ⟨ys, hy, l⟩ := hg
    obtain ⟨its', r2, ty, _⟩ := I.tuple hy
    have e2 := r2.length
    obtain ⟨⟨old, c1⟩, c5⟩ := st
    have hh : X.A.handled = none := I.ok.hd hc
    have D := drawsTup (prog := X.prog) (w := X.w) (A := X.A.in1) hh n b (by show (_ : Nat) ≠ _; omega) its'.toArray
    have ez : i = its'.toArray.size := by rw [List.size_toArray, ← e2]; exact l
    refine wpAny_pyNext_enum_endD D c1 (ez ▸ ⟨c5, ty⟩) fun g kp => ⟨rfl, I.turnedL (t' := s.toks) (ch := [n + 1, n]) (fun c o hc' e => ?_) hf⟩
    exact kp c o (fun z => hc' (by rw [z]; simp)) e
  self := fun _ _ _ _ _ st h => let ⟨⟨_, c1⟩, _⟩ := st; wpAny_pyIter_enum c1 h
def iEnuT (K : PySem.W.Frag) (ta : TA) : TI := fun σ H R => ta σ H fun vs H1 => ∃ b, vs = [.ref b] ∧ (∃ ys, SqT K H1 b ys) ∧ R (IteT K b) H1
theorem pi_enumT {X : Cx} {es : List Expr} {k1 : Nat} {p1 : Pos} {e1 : Expr} {ta : TA} {p pos : Pos} (hg : Gl X "enumerate") (hm : X.mg "enumerate" = none) (ha : PA X [e1] ta) (hs : starEach [e1] X.env = [(false, eval e1 X.env)] := by rfl) :
    PI X (.Tuple es k1 p1) (.Call (.Name "enumerate" p) [e1] [] pos) (iEnuT X.K ta) := by
  intro pins s σ H R I h
  refine Call_ (ld_blt I hg hm bt_enumerate (PyProof.Rows.callWith_type1 (thn (ha pos pins s σ H _ I h) fun us s1 ⟨vs, H1, I1, r1, q1⟩ => ?_) hs rfl))
  obtain ⟨b, rfl, ⟨ys, hy⟩, q⟩ := q1
  cases r1 with
  | cons r rr =>
    cases rr
    cases r
    obtain ⟨its', _, ty, _⟩ := I1.tuple hy
    have lb : b < s1.heap.objs.size := by obtain ⟨o, e, _⟩ := show Heap.IsTuple _ _ _ from ty; exact Heap.lt_size e
    refine HT.call_enumerate_tup (show s1.heap.IsTuple _ _ from ty) fun g c1 c5 _ kp => wpAny_pyIter_enum c1 ?_
    have I2 : Inv X pins σ H1 { s1 with heap := g } := I1.kept (t' := s1.toks) kp
    refine ⟨s1.heap.objs.size + 1, _, _, _, H1, rfl, I2, turn_enumT lb, ⟨⟨_, c1⟩, c5⟩, fun c hc => ?_, q⟩
    refine I1.fpOk ?_ (I1.hok.fresh ?_)
    all_goals
      have hc' : c = s1.heap.objs.size + 1 ∨ c = s1.heap.objs.size := by simpa using hc
      rcases hc' with e | e <;> (subst e; omega)
theorem for_enumT {K : PySem.W.Frag} {b : Addr} {ys : List V} {g : TG} {tb : TS} {D : Ends} {σ : St} {H : Hp} (Pv : Nat → St → Hp → Prop) (h0 : Pv 0 σ H) (hl : ∀ i σ H, i ≤ ys.length → Pv i σ H → SqT K H b ys)
    (hs : ∀ i y T σ H, ys[i]? = some y → H T = none → Pv i σ H → g (.ref T) σ (upd H T (.tup [.int (i : Nat), y])) fun σ2 H2 => tb { D with nx := Pv (i + 1), ct := Pv (i + 1), bk := D.nx } σ2 H2) (hd : ∀ σ H, Pv ys.length σ H → D.nx σ H) :
    ∃ W : Nat → Nat → St → Hp → Prop, (∃ m, W 0 m σ H) ∧ ∀ i m σ H, W i m σ H →
      ((IteT K b).stop i H ∧ D.nx σ H) ∨ ((IteT K b).go i H ∧ ∃ N : St → Hp → Prop, (∀ σ' H', N σ' H' → ∃ m', m' < m ∧ W (i + 1) m' σ' H') ∧ ∀ v H', (IteT K b).yld i H v H' → g v σ H' fun σ2 H2 => tb { D with nx := N, ct := N, bk := D.nx } σ2 H2) := by
  refine ⟨fun i m σ H => m = ys.length - i ∧ i ≤ ys.length ∧ Pv i σ H, ⟨ys.length, by simp, Nat.zero_le _, h0⟩, ?_⟩
  rintro i m σ H ⟨rfl, hi, p⟩
  have q2 := hl i σ H hi p
  by_cases hlt : i < ys.length
  · refine .inr ⟨⟨ys, q2, hlt⟩, Pv (i + 1), fun σ' H' p' => ⟨ys.length - (i + 1), by omega, rfl, hlt, p'⟩, fun v H' y => ?_⟩
    obtain ⟨T, hT, rfl, y⟩ := y
    obtain ⟨y', e2, rfl⟩ := y ys q2
    exact hs i y' T σ H e2 hT p
  · have e : i = ys.length := by omega
    subst e
    exact .inl ⟨⟨ys, q2, rfl⟩, hd σ H p⟩
end L2

namespace L2
open PySem PySem.Spec PyProof.Rows
theorem Same.seqt {K : PySem.W.Frag} {H H' : Hp} {a : Addr} {xs : List V} (e : Same H H') (h : SqT K H a xs) : SqT K H' a xs := by
  rcases h with h | h
  · rcases h with h | ⟨o, h⟩
    · exact .inl (.inl (e _ _ h))
    · exact .inl (.inr ⟨o, e _ _ h⟩)
  · exact .inr h
/-- [i for i, x in enumerate(t) if ..] -/
theorem comp_enumT {K : PySem.W.Frag} {b : Addr} {ys : List V} {D : Addr} {g : TG} {tt : TT} {te : TE} {σ0 : St} {QD : Hp → Prop} {H1 : Hp} (hb : SqT K H1 b ys) (p : Nat → Bool) (hD : H1 D = none) (hl : ys.length ≤ 1000)
    (hs : ∀ (i : Nat) y T Hx (R1 : VK) (R2 : Hp → Prop), ys[i]? = some y → Same H1 Hx → Hx T = some (.tup [.int i, y]) → (p i = true → ∀ H4, Same Hx H4 → R1 (.int i) H4) → (p i = false → ∀ H4, Same Hx H4 → R2 H4) → g (.ref T) σ0 Hx fun σ2 H2 => Keep σ0 σ2 ∧ tt σ2 H2 fun b H3 => if b = true then te σ2 H3 R1 else R2 H3)
    (hd : ∀ H', Same H1 H' → H' D = some (.lst (((List.range ys.length).filter p).map fun (i : Nat) => V.int (i : Int))) → QD H') :
    ∃ W : Nat → Nat → List V → Hp → Prop, (∃ m, W 0 m [] (upd H1 D (.lst []))) ∧ ∀ i m zs H, W i m zs H → H D = some (.lst zs) ∧ zs.length < sizeLine ∧
      (((IteT K b).stop i H ∧ QD H) ∨ ((IteT K b).go i H ∧ ∀ x H', (IteT K b).yld i H x H' → g x σ0 H' fun σ2 H2 => Keep σ0 σ2 ∧ tt σ2 H2 fun b H3 =>
        if b = true then te σ2 H3 fun y H4 => H4 D = some (.lst zs) ∧ ∃ m', m' < m ∧ W (i + 1) m' (zs ++ [y]) (upd H4 D (.lst (zs ++ [y]))) else ∃ m', m' < m ∧ W (i + 1) m' zs H3)) := by
  refine ⟨fun i m zs H => m = ys.length - i ∧ i ≤ ys.length ∧ Same H1 H ∧ H D = some (.lst zs) ∧ zs = ((List.range i).filter p).map fun (i : Nat) => V.int (i : Int),
    ⟨_, rfl, Nat.zero_le _, Same.upd hD, upd_same, rfl⟩, ?_⟩
  rintro i m zs H ⟨rfl, hi, sm, hDH, rfl⟩
  have zl : (((List.range i).filter p).map fun (i : Nat) => V.int (i : Int)).length ≤ 1000 := by
    rw [List.length_map]
    exact Nat.le_trans (List.length_filter_le _ _) (by rw [List.length_range]; omega)
  refine ⟨hDH, small1000 zl, ?_⟩
  by_cases hlt : i < ys.length
  · refine .inr ⟨⟨ys, sm.seqt hb, hlt⟩, fun x H' y => ?_⟩
    obtain ⟨T, hT, rfl, hy⟩ := y
    obtain ⟨y, hyi, rfl⟩ := hy ys (sm.seqt hb)
    have st := Same.upd (o := .tup [.int (i : Nat), y]) hT
    have er : List.range (i + 1) = List.range i ++ [i] := List.range_succ
    refine hs i y T _ _ _ hyi (sm.trans st) upd_same (fun px H4 s4 => ?_) (fun px H4 s4 => ?_)
    · have hD4 := s4 _ _ (st _ _ hDH)
      refine ⟨hD4, ys.length - (i + 1), by omega, rfl, hlt, fun b o e => ?_, upd_same, ?_⟩
      · rw [upd_ne (ne_of_none e hD)]
        exact s4 _ _ (st _ _ (sm _ _ e))
      · rw [er, List.filter_append, List.map_append, List.filter_cons, if_pos px]
        rfl
    · refine ⟨ys.length - (i + 1), by omega, rfl, hlt, (sm.trans st).trans s4, s4 _ _ (st _ _ hDH), ?_⟩
      rw [er, List.filter_append, List.map_append, List.filter_cons, if_neg (by rw [px]; exact Bool.false_ne_true)]
      simp
  · have e : i = ys.length := by omega
    subst e
    exact .inl ⟨⟨ys, sm.seqt hb, rfl⟩, hd H sm hDH⟩
end L2

/-! ### the head of a law one of whose defs makes a lambda: the table of its codes is tracked from the start -/
namespace L2
open PySem PySem.Spec PySem.Calls PyProof.Rows
theorem law_callT {P : Program} {w : World} {K : PySem.W.Frag} {mg mb : Str → Option Value} {CX : CXT} {k : Nat} {fa a : Addr} {fd : FuncData} {x : Str} {sp : Sp} {s₁ : Shared} {vs : List Value} {ns : List Int} {c T : Addr}
    (KX : K.In s₁.heap) (hns : s₁.heap.Ns mainGlobals mg) (hb : s₁.heap.Ns builtinsNs mb) (hbb : ∀ x : Str, x ≠ "__name__" → mb x = bootBuiltins x) (hlim : s₁.heap.NoLimit) (hg : s₁.gens = #[])
    (ha : s₁.heap.get? a = some { cls := .type "list", data := .seq vs.toArray }) (hi : IntsAre vs ns) (hl : ns.length ≤ sizeLine) (hr : Room k callerA)
    (C : PySem.W.CodeHd s₁.heap c T) (hT : s₁.heap.get? T = some (PySem.W.tabObj #[])) (hnt : PySem.W.noTabs K = true) (hbm : s₁.heap.BuiltinsAt mg T) (hgT : mainGlobals ≠ T)
    (F : ∀ base : Heap, K.In base → base.Ns mainGlobals mg → LamB mg base c T → FnOk P w K mg base CX k fa fd [x] sp) (hbind : ∀ (s : Shared) (u : Value), BindsTo s fd ⟨[u], []⟩ [(x, u)])
    (hsp : ∀ H : Hp, H T = some (.tbl #[]) → SqL K H a (ns.map V.int) → sp [.ref a] H (fun v _ => v = .bl true) fun _ _ _ => False)
    (hCX : ∀ H e s', CX [] H s₁ (fun _ _ _ => False) e s' → False) :
    codeAny (model P w) callerA (.call (.ref fa) ⟨[.ref a], []⟩) (fun r s' => r = .ok (.ret (.bool true)) ∧ OldK s₁.heap s'.heap ∧ s'.os = s₁.os ∧ AllBare s'.gens) s₁ := by
  have rv := vals_ints hi
  have lenV := hi.length
  have haT : a ≠ T := fun e => by rw [e, hT] at ha; cases ha
  have hKT : K.lookup T = none := by
    cases q : K.lookup T with
    | none => rfl
    | some o =>
      have e := KX _ _ q
      rw [hT] at e
      cases e
      have h2 := List.all_eq_true.mp hnt _ (PySem.W.mem_of_lookupK q)
      exact absurd (show false = true from h2) Bool.false_ne_true
  have core : ∀ H : Hp, H T = some (.tbl #[]) → (∀ b, b ≠ T → H b = none ∨ ∃ o xs, H b = some (.frz o (.lst xs))) → SqL K H a (ns.map V.int) → HOk P w H s₁.heap → (∀ b, H b ≠ none → b = a ∨ b = T) → (H a ≠ none → K.lookup a = none) →
      codeAny (model P w) callerA (.call (.ref fa) ⟨[.ref a], []⟩) (fun r s' => r = .ok (.ret (.bool true)) ∧ OldK s₁.heap s'.heap ∧ s'.os = s₁.os ∧ AllBare s'.gens) s₁ := by
    intro H hHT hO hS hok hA hK
    have base_of : ∀ {b : Addr} {o : Obj}, s₁.heap.get? b = some o → H b = none → (hidT s₁.heap H).get? b = some o := fun e n => hidT_get e n
    have noC : ∀ {b : Addr} {o : Obj}, s₁.heap.get? b = some o → o.cls ≠ .type "list" ∨ (∀ xs n, o.data ≠ .seq xs n) → b ≠ T → H b = none := fun {b o} e d nT => by
      cases q : H b with
      | none => rfl
      | some u =>
        rcases hA b (by rw [q]; simp) with e' | e'
        · subst e'
          rw [ha] at e; cases e
          rcases d with d | d
          · exact absurd rfl d
          · exact absurd rfl (d _ _)
        · exact absurd e' nT
    have noA : ∀ {b : Addr} {o : Obj} {es : Array DictEntry} {ep : Nat}, s₁.heap.get? b = some o → o.data = .dict es ep → H b = none := fun {b o es ep} e d => by
      refine noC e (.inr fun xs n z => by rw [d] at z; cases z) fun z => ?_
      rw [z, hT] at e; cases e; cases d
    have nsK : ∀ {b : Addr} {m : Str → Option Value}, s₁.heap.Ns b m → (hidT s₁.heap H).Ns b m := fun {b m} ⟨o, es, ep, e, d, r⟩ => ⟨o, es, ep, base_of e (noA e d), d, r⟩
    have hKb : K.In (hidT s₁.heap H) := fun b o e => base_of (KX b o e) (by
      cases q : H b with
      | none => rfl
      | some u =>
        rcases hA b (by rw [q]; simp) with e' | e'
        · subst e'
          rw [hK (by rw [q]; simp)] at e; cases e
        · subst e'
          rw [hKT] at e; cases e)
    have hM : Mod K mg (hidT s₁.heap H) := ⟨hKb, nsK hns, ⟨mb, nsK hb, hbb⟩, let ⟨mc, h1, h2⟩ := hlim; ⟨mc, nsK h1, h2⟩⟩
    have hL : LamB mg (hidT s₁.heap H) c T := by
      refine ⟨?_, hgT, ?_⟩
      · obtain ⟨o, vs', file, tf, flags, tg, inF, text, tt, e1, e2, e3, e4, r1, r2, r3, r4, r5, ne⟩ := C
        exact ⟨o, vs', file, tf, flags, tg, inF, text, tt, base_of e1 (noC e1 (.inl (by rw [e2]; decide)) ne), e2, e3, e4, r1, r2, r3, r4, r5, ne⟩
      · obtain ⟨bm, o, a1, a2, a3, a4, a5, a6, a7⟩ := hbm
        exact ⟨bm, o, a1, a2, a3, a4, base_of a5 (noC a5 (.inl (by rw [a6]; decide)) a4), a6, a7⟩
    have e0 : Env0 P w K mg (hidT s₁.heap H) callerA [] s₁ H := ⟨rfl, hM, fun b o e => of_hidT e, Nat.le_of_eq (hidT_size _ _), trivial, fun b hb => absurd (show b ∈ ([] : List Addr) from hb) (by simp), hok, .of_eq hg⟩
    refine codeAny_mono ((F _ hKb (nsK hns) hL).run callerA [] s₁ H ⟨[.ref a], []⟩ [.ref a] [.ref a] _ _ hr e0 (hbind s₁ (.ref a)) (.cons rfl .nil) (hsp H hHT hS)) fun r s' h => ?_
    cases r with
    | error e => exact (hCX H e s' h).elim
    | ok fl =>
      cases fl with
      | next => exact False.elim h
      | brk => exact False.elim h
      | cont => exact False.elim h
      | ret u =>
        obtain ⟨v, H', os, bare, un, hok', r', q⟩ := h
        have q' : v = .bl true := q
        subst q'
        obtain rfl : u = Value.bool true := r'
        have keep : ∀ b o, b ≠ T → s₁.heap.get? b = some o → s'.heap.get? b = some o := fun b o nb e => by
          cases q : H b with
          | none => exact un.keep b o e q (by intro z; exact absurd (show b ∈ ([] : List Addr) from z) (by simp)) (by simp)
          | some u =>
            rcases hO b nb with z | ⟨ob, xs, z⟩
            · rw [q] at z; cases z
            · have z2 := un.frzs b ob _ z
              obtain ⟨e1, _⟩ := hok b _ z
              obtain ⟨e2, _⟩ := hok' b _ z2
              rw [e] at e1; cases e1
              exact e2
        obtain ⟨more, hm⟩ := un.tbls T #[] hHT
        have hTm : s'.heap.get? T = some (PySem.W.tabObj (#[] ++ more)) := hok' _ _ hm
        refine ⟨rfl, ⟨fun b o e => ?_, fun b o e => ?_⟩, os, bare⟩
        · by_cases nb : b = T
          · subst nb
            rw [hT] at e; cases e
            exact .inr (.inl ⟨(C.tab hT).isCodeTable, rfl, #[], more, rfl, hTm⟩)
          · exact .inl (keep b o nb e)
        · by_cases nb : b = T
          · subst nb; exact ⟨_, hTm⟩
          · exact ⟨o, keep b o nb e⟩
  cases hk : K.lookup a with
  | some o =>
    have e := KX a o hk
    rw [ha] at e
    cases e
    refine core (fun b => if b = T then some (.tbl #[]) else none) (if_pos rfl) (fun b nb => .inl (if_neg nb)) (.inr ⟨_, vs.toArray, _, hk, rfl, rfl, rfl, by rw [List.size_toArray, lenV]; exact hl, by simpa using rv⟩) (fun b u z => ?_) (fun b z => ?_) fun z => absurd (if_neg haT) z
    · by_cases nb : b = T
      · have z' := (if_pos nb).symm.trans z
        cases z'
        subst nb
        exact hT
      · have z' := (if_neg nb).symm.trans z
        cases z'
    · by_cases nb : b = T
      · exact .inr nb
      · exact absurd (if_neg nb) z
  | none =>
    refine core (fun b => if b = T then some (.tbl #[]) else if b = a then some (.frz { cls := .type "list", data := .seq vs.toArray } (.lst (ns.map V.int))) else none) (if_pos rfl) (fun b nb => ?_) (.inl (.inr ⟨{ cls := .type "list", data := .seq vs.toArray }, (if_neg haT).trans (if_pos rfl)⟩)) (fun b u z => ?_) (fun b z => ?_) fun _ => hk
    · by_cases hb : b = a
      · exact .inr ⟨_, _, (if_neg nb).trans (if_pos hb)⟩
      · exact .inl ((if_neg nb).trans (if_neg hb))
    · by_cases nb : b = T
      · have z' := (if_pos nb).symm.trans z
        cases z'
        subst nb
        exact hT
      · have z0 := (if_neg nb).symm.trans z
        by_cases hb : b = a
        · have z' := (if_pos hb).symm.trans z0
          cases z'
          subst hb
          exact ⟨ha, by rw [List.length_map]; exact hl, vs, _, rv, ha⟩
        · have z' := (if_neg hb).symm.trans z0
          cases z'
    · by_cases nb : b = T
      · exact .inr nb
      · by_cases hb : b = a
        · exact .inl hb
        · exact absurd ((if_neg nb).trans (if_neg hb)) z
theorem walk_ofT {l : PySem.W.OpenLaw} {n k : Nat} {q : Program} {loose : List Str} {XP : (Str → Option Value) → Heap → Prop} {YP : World → Heap → Prop} {d d0 : DefRec} {K : Params → PySem.W.Frag} {CX : World → CXT} {sp : World → Addr → Sp} {x x0 : Str}
    (hn : l.most = some n) (hn2 : n ≤ sizeLine) (hdf : d.params.defaults = []) (hr : Room k callerA) (hrec : (recsOf q).find? (fun e => e.name == x0) = some d0)
    (hY : ∀ (w : World) (h : Heap), YP w h → (K w.params).In h)
    (F : ∀ (w : World) (mg : Str → Option Value) (fa : Addr) (h : Heap), (K w.params).In h → h.Ns mainGlobals mg → mg d.name = some (.ref fa) →
      ∃ (fd : FuncData) (c T : Addr), PySem.W.tabIn (K w.params) x0 = some (c, T) ∧ PySem.W.noTabs (K w.params) = true ∧ (∀ (s : Shared) (u : Value), BindsTo s fd ⟨[u], []⟩ [(x, u)]) ∧
        ∀ base : Heap, (K w.params).In base → base.Ns mainGlobals mg → LamB mg base c T → FnOk l.prog w (K w.params) mg base (CX w) k fa fd [x] (sp w T))
    (hsp : ∀ (w : World) (T : Addr) (H : Hp) (a : Addr) (ns : List Int), ns.length ≤ n → H T = some (.tbl #[]) → SqL (K w.params) H a (ns.map V.int) → sp w T [.ref a] H (fun v _ => v = .bl true) fun _ _ _ => False)
    (hCX : ∀ (w : World) (H : Hp) (s : Shared) (e : Value) (s' : Shared), CX w [] H s (fun _ _ _ => False) e s' → False) :
    PySem.W.WalkO q loose XP YP l.row.toRowW d [] (fun f vs => PySem.call f vs) := by
  refine Att.attach_call hn hdf fun w s₀ s₁ mg mb fa o pm cd doc a vs ns G Y ho hd hcd hmg hobj hints hlen hg => ?_
  have KX := hY w _ Y
  obtain ⟨fd, c, T, ht, hnt, hb, hF⟩ := F w mg fa _ KX G.T.g hmg
  obtain ⟨C, hT⟩ := PySem.W.tab_of G.T KX hrec ht
  have hgT : mainGlobals ≠ T := fun z => by
    obtain ⟨o, es, ep, e, hd, _⟩ := G.T.g
    rw [z, hT] at e; cases e; cases hd
  have hbm : s₁.heap.BuiltinsAt mg T := by
    obtain ⟨bm, ob, b1, b2, b3, b4, b5, b6⟩ := G.T.bmain
    refine ⟨bm, ob, b1, b2, fun z => ?_, fun z => ?_, b3, b4, b5, b6⟩
    · obtain ⟨o, es, ep, e, hd, _⟩ := G.T.g
      rw [z, e] at b3; cases b3; rw [hd] at b6; cases b6
    · rw [z, hT] at b3; cases b3; cases b4
  exact law_callT KX G.T.g G.T.b G.T.builtins G.T.nolimit hg hobj hints (Nat.le_trans hlen hn2) hr C hT hnt hbm hgT hF hb (fun H hO hS => hsp w T H a ns hlen hO hS) fun H e s' => hCX w H s₁ e s'
/-- a def whose code is at c -/
structure FunC (K : PySem.W.Frag) (x qual : Str) (st : Stmt) (f : Addr) (fd : FuncData) (c : Addr) : Prop where
  ex : ∃ (oc : Value) (od : Option Addr) (kV doc pm : Value) (an : Option Addr) (ct : Value) (osl : Array (Option Value)),
    fd = PySem.W.fnOf x qual (defArgs st) (defBody st) (defScope st) .none kV doc pm an (.ref c) ct ∧ K.lookup f = some ⟨oc, od, .func fd, osl⟩ ∧ PySem.W.codeIn K (.ref c) qual = true
  kp : PySem.W.keepIn K (.ref f) = true
section
variable {P : Program} {w : World} {K : PySem.W.Frag} {mg : Str → Option Value} {base : Heap}
theorem FunC.ok {x qual : Str} {st : Stmt} {f c : Addr} {fd : FuncData} {N ps : List Str} {k : Nat} {sp : Sp} (F : FunC K x qual st f fd c) (S : FnScope N ps (defScope st)) (len : ∀ vs H Q E, sp vs H Q E → vs.length = ps.length)
    (hbody : ∀ (A : Around) (outer : List Env) (s : Shared) (H : Hp) (vs : List V) (Q : VK) (E : XK), Room k (A.deeper (envOfC qual (defScope st) s.heap.objs.size f (.ref c))) → sp vs H Q E →
      ∃ t, PSs (cxOf CX0 P w K mg base N qual (defScope st) f (.ref c) A outer s H E).nox (defBody st) t ∧ t { nx := fun _ H' => Q .non H', rt := Q } (start N vs) H) : FnOk P w K mg base CX0 (k + 1) f fd ps sp := by
  obtain ⟨oc, od, kV, doc, pm, an, ct, osl, rfl, lk, hcd⟩ := F.ex
  refine fn_of lk hcd S len fun A outer s H vs Q E hr hsp => ?_
  obtain ⟨t, h, q⟩ := hbody A outer s H vs Q E hr hsp
  exact ⟨t, h.nox, q⟩
end
end L2

set_option maxHeartbeats 2000000
namespace L2
open PySem PySem.Spec PyProof.Rows
theorem Room.lam {n : Nat} {A : Around} (r : Room (n + 1) A) (env : Env) : Room n (A.in1.in1.deeper env) :=
  ⟨r.hd, by have := r.dp; show A.depth + 1 + 3 * n + 5 < _; omega, by have := r.un; show A.units + 1 + 1 + 3 + 16 * n + 200 < _; omega⟩
end L2
namespace K43
open PySem PySem.Spec PyProof.Rows L2 GM TM TR
def lamP : Pos := ⟨26, 30, 26, 68⟩
def lamQ : Str := ("recipes_by_need" : Str) ++ ".<locals>." ++ "<lambda>"
abbrev LT (H : Hp) (T : Addr) : Prop := LamT H T lamQ lamP
theorem sB_tk {T : Addr} {G H : Hp} (s : SameB T G H) (l : LT G T) : Tk G H := fun b ys e => s.tup l e
theorem sB_own {T p : Addr} {G H : Hp} {o : HO} (s : SameB T G H) (n : G p = none) : SameB T G (upd H p o) := fun b u nb e => by
  rw [upd_ne (ne_of_none e n)]
  exact s b u nb e
def spRecs (T : Addr) (n : Nat) : Sp := fun vs H Q _ => ∃ (q : Addr) (vs0 : List V) (p : List Nat) (ch : List Nat → Nat) (nd : List Nat → Int), vs = [.ref q] ∧ H q = some (.tup vs0) ∧ vs0.length < 64 ∧ vs0.length = ch p ∧ (∀ (k : Nat) c, vs0[k]? = some c → Hf H n c (shf (p ++ [k]) ch) (shf (p ++ [k]) nd)) ∧ LT H T ∧
  ∀ (os : List Nat) l H', SameB T H H' → LT H' T → H l = none → H' l = some (.lst (os.map fun (k : Nat) => V.int (k : Int))) → os.Perm (recs ch p) → os.Pairwise (ndO nd p) → Q (.ref l) H'
theorem ndPc : (["place", "child"] : List Str).Nodup := by decide +kernel
theorem hf_kind {H : Hp} {n : Nat} {c : V} {ch : List Nat → Nat} {nd : List Nat → Int} {p : List Nat} (h : Hf H n c (shf p ch) (shf p nd)) : ∃ (a m : Addr) (x y : Str) (r : List V), c = .ref a ∧ H a = some (.tup (.str y :: .str x :: .ref m :: r)) ∧ ((y = "ware" ∧ ch p = 0) ∨ (y = "recipe" ∧ ch p ≠ 0)) := by
  cases n with
  | zero => exact h.elim
  | succ n =>
    rcases h.2 with ⟨a, m, x, e, ha, c0, _⟩ | ⟨a, m, q, x, vs, e, ha, hq, l1, l2, cl, _⟩
    · have c0 : ch (p ++ []) = 0 := c0
      rw [List.append_nil] at c0
      exact ⟨a, m, x, "ware", [], e, ha, .inl ⟨rfl, c0⟩⟩
    · have cl : ch (p ++ []) = vs.length := cl
      rw [List.append_nil] at cl
      exact ⟨a, m, x, "recipe", [.ref q], e, ha, .inr ⟨rfl, by omega⟩⟩
theorem hf_need {H : Hp} {n : Nat} {c : V} {ch : List Nat → Nat} {nd : List Nat → Int} {p : List Nat} (h : Hf H n c (shf p ch) (shf p nd)) : ∃ s, Tr H n c s (nd p) := by
  cases n with
  | zero => exact h.elim
  | succ n =>
    obtain ⟨s, tr⟩ := h.1
    have : nd (p ++ []) = nd p := by rw [List.append_nil]
    exact ⟨s, this ▸ tr⟩
section
variable {P : Program} {w : World} {K : PySem.W.Frag} {mg : Str → Option Value} {base : Heap}
theorem scRecs : FnScope ["children", "places"] ["children"] (defScope sRecs) := ⟨rfl, rfl, rfl, by decide +kernel, rfl, by decide +kernel, by decide +kernel⟩
theorem ok_recs {k n : Nat} {f c T : Addr} {fd : FuncData} (F : FunC K "recipes_by_need" "recipes_by_need" sRecs f fd c) (T' : Txt mg) (B : LamB mg base c T) (cN : Cal P w K mg base CX0 k "need_of" ["tree"] (spNeedOf n)) : FnOk P w K mg base CX0 (k + 2) f fd ["children"] (spRecs T n) := by
  refine F.ok scRecs (fun vs H Q E h => ?_) (fun A outer s H vs Q E hr h => ?_)
  · obtain ⟨_, _, _, _, _, rfl, _⟩ := h
    rfl
  · obtain ⟨q, vs0, p, ch, nd, rfl, hq, l64, lch, hc, lt, k'⟩ := h
    refine ⟨_, (pss_cons (ps_comp (iy := 1) (N' := ["place", "child"]) (cl := []) (g := gTup K 2 (gCons (gName 0) (gCons (gName 1) gNil))) (fun _ => [none, none]) rfl rfl (by decide +kernel) (by decide +kernel) (clOk_plain (by decide +kernel)) (fun _ _ => blkN_none)
        (pi_enumT rfl T'.enum' (pa_cons (pv 0) pa_nil)) (fun _ _ _ _ _ => pg_tup rfl (pgs_cons (pg_name (i := 0) ndPc rfl (Or.inl rfl) (Or.inr rfl)) (pgs_cons (pg_name (i := 1) ndPc rfl (Or.inl rfl) (Or.inr rfl)) pgs_nil))) (fun _ _ _ _ _ => pifs_one (pt_cmpR op_eq (pe_ix (ix_tupK (K := K) rfl) (pv 1) pe_int (fun _ _ => rfl)) pe_str (nomark _))) (fun _ _ _ _ _ => pv 0) scRecs.nd rfl (Or.inl rfl) (Or.inr rfl) rfl)
      (pss_one (ps_ret (pe_sortI (qual := lamQ) (lpos := lamP) (x := "place") (y := "children") (i := 0) (cc := s.heap.objs.size + 1) hr rfl T'.sorted' (pv 1) B rfl rfl rfl rfl (fun _ _ _ _ => rfl) ⟨rfl, rfl, rfl, by decide +kernel, rfl, rfl, fun z h => of_decide_eq_true ((List.all_eq_true.mp (by decide +kernel : ([("place", NameKind.local), ("children", NameKind.free), ("need_of", NameKind.globalImplicit)] : List (Str × NameKind)).all (fun x => decide (x.2 = .free → x.1 = "children")) = true)) _ (PySem.mem_of_lookup h)) rfl⟩ (by decide) rfl rfl rfl
        (fun _ _ _ _ => pe_cal cN (hr.lam _) rfl pass0 (pa_cons (pe_ix (ix_tupK (K := K) rfl) (pv 1) (pv 0) (fun _ _ => rfl)) pa_nil)))))), ?_⟩
    refine ⟨_, rfl, q, rfl, ⟨_, SqT.of hq⟩, fun D nD => ?_⟩
    refine comp_enumT (SqT.of hq) (fun k => decide (ch (p ++ [k]) ≠ 0)) nD (by omega) (fun i y T1 Hx R1 R2 hy sm hT q1 q2 => ?_) (fun H1 s1 hD => ?_)
    · obtain ⟨a, m, x, yk, r, rfl, ha, alt⟩ := hf_kind ((hc i y hy).keep sm.tk)
      refine ⟨T1, _, rfl, SqT.of hT, rfl, _, _, rfl, _, _, rfl, rfl, ((Keep.refl _).set rfl).set rfl, _, rfl, a, _, 0, .str yk, rfl, rfl, SqT.of ha, atI_nat (j := 0) rfl, rfl, _, rfl, ?_⟩
      rcases alt with ⟨rfl, c0⟩ | ⟨rfl, c0⟩
      · exact iteF (q2 (by simpa using c0) _ (Same.refl _))
      · exact iteT ⟨_, rfl, q1 (by simpa using c0) _ (Same.refl _)⟩
    rw [lch] at hD
    have hD' : H1 D = some (.lst (((recs ch p).map fun (k : Nat) => (k : Int)).map V.int)) := by
      rw [hD, List.map_map]
      rfl
    have rin : ∀ k ∈ recs ch p, k < ch p := fun k hk => List.mem_range.mp (List.mem_filter.mp hk).1
    have rl : (recs ch p).length ≤ ch p := by
      have : (recs ch p).length ≤ (List.range (ch p)).length := List.length_filter_le _ _
      simpa using this
    have ez : ((recs ch p).map fun k => nd (p ++ [k])).zip ((recs ch p).map fun (k : Nat) => (k : Int)) = (recs ch p).map fun (k : Nat) => (nd (p ++ [k]), (k : Int)) := by rw [List.zip_map']
    refine ⟨_, rfl, D, (recs ch p).map fun (k : Nat) => (k : Int), (recs ch p).map fun k => nd (p ++ [k]), .ref q, rfl, SqL.of hD', ?_, by rw [List.length_map]; omega, by rw [List.length_map, List.length_map], LamT.keep lt s1, rfl, fun j nn kk hn hk H2 sb => ?_, fun l ps H2 pm pw sb l2 nl hl => ?_⟩
    · rw [List.pairwise_map]
      have : (recs ch p).Pairwise (· < ·) := List.Pairwise.sublist List.filter_sublist (List.pairwise_lt_range)
      exact this.imp fun h => by omega
    · rw [List.getElem?_map] at hn hk
      obtain ⟨kn, hkn, rfl⟩ := Option.map_eq_some_iff.mp hn
      rw [hkn] at hk
      cases hk
      have kl := rin kn (List.mem_of_getElem? hkn)
      obtain ⟨c1, hc1⟩ : ∃ c1, vs0[kn]? = some c1 := ⟨_, List.getElem?_eq_getElem (by omega)⟩
      have tk2 : Tk H H2 := s1.tk.trans (sB_tk sb (LamT.keep lt s1))
      obtain ⟨sz, tr⟩ := hf_need ((hc kn c1 hc1).keep tk2)
      exact ⟨_, rfl, _, rfl, q, vs0, (kn : Int), c1, rfl, rfl, SqT.of (tk2 _ _ hq), atI_nat hc1, c1, sz, _, rfl, tr, fun H3 s3 => ⟨rfl, s3⟩⟩
    · rw [ez] at pm
      have hps : ∀ x ∈ ps, x.1 = nd (p ++ [x.2.toNat]) ∧ x.2 = ((x.2.toNat : Nat) : Int) := fun x hx => by
        obtain ⟨k, _, rfl⟩ := List.mem_map.mp (pm.mem_iff.mp hx)
        simp
      have po : (ps.map fun x => x.2.toNat).Perm (recs ch p) := by
        have := pm.map fun x : Int × Int => x.2.toNat
        rw [List.map_map] at this
        have e : ((fun x : Int × Int => x.2.toNat) ∘ fun k : Nat => (nd (p ++ [k]), (k : Int))) = id := by funext k; simp
        rwa [e, List.map_id] at this
      refine k' (ps.map fun x => x.2.toNat) l H2 ((Same.b s1).trans sb) l2 (s1.free nl) ?_ po ?_
      · rw [hl, List.map_map, List.map_map]
        congr 2
        apply List.map_congr_left
        intro x hx
        show V.int x.2 = V.int ((x.2.toNat : Nat) : Int)
        rw [← (hps x hx).2]
      · rw [List.pairwise_map]
        refine pw.imp_of_mem fun {x y} hx hy h => ?_
        have h1 := hps x hx
        have h2 := hps y hy
        unfold ndO
        rcases h with h | ⟨h, h'⟩
        · exact .inl (by rw [← h1.1, ← h2.1]; exact h)
        · exact .inr ⟨by rw [← h1.1, ← h2.1]; exact h, by omega⟩
end
end K43

set_option maxHeartbeats 2000000
namespace K43
open PySem PySem.Spec PyProof.Rows L2 GM TM TR
/-- a step in the heap, with its word -/
def SV (H : Hp) (s : Addr) (x : Str × List Nat) : Prop := ∃ pa : Addr, H s = some (.tup [.str x.1, .ref pa]) ∧ H pa = some (.tup (pth x.2))
theorem SV.keep {H H' : Hp} {s : Addr} {x : Str × List Nat} (h : SV H s x) (t : Tk H H') : SV H' s x := by
  obtain ⟨pa, h1, h2⟩ := h
  exact ⟨pa, t _ _ h1, t _ _ h2⟩
theorem lg_len {ch : List Nat → Nat} {nd : List Nat → Int} (t : TT ch nd 62) {ps : List (List Nat)} (l : Lg ch ps) : ps.length ≤ (pre ch 62 []).length := nd_len l.nodup fun x hx => t.mem (l.mem hx).1
/-- what is known of the whole tree -/
structure Wh (ch : List Nat → Nat) (nd : List Nat → Int) : Prop where
  tt : TT ch nd 62
  sz : (pre ch 62 []).length ≤ 100
def spWithin (T : Addr) (n : Nat) : Sp := fun vs H Q _ => ∃ (v : V) (pa : Addr) (p : List Nat) (ch : List Nat → Nat) (nd : List Nat → Int), vs = [v, .ref pa] ∧ H pa = some (.tup (pth p)) ∧ Hf H n v (shf p ch) (shf p nd) ∧ 1 ≤ ch p ∧ Vp ch p ∧ Wh ch nd ∧ LT H T ∧
  ∀ (ss : List (Addr × (Str × List Nat))) l H', SameB T H H' → LT H' T → H l = none → H' l = some (.lst (ss.map fun s => .ref s.1)) → (∀ s ∈ ss, SV H' s.1 s.2) → Pl ch nd n p (ss.map (·.2)) → Q (.ref l) H'
def spStepsOf (T : Addr) (n : Nat) : Sp := fun vs H Q _ => ∃ (v : V) (ch : List Nat → Nat) (nd : List Nat → Int), vs = [v] ∧ Hf H n v ch nd ∧ 1 ≤ ch [] ∧ Wh ch nd ∧ LT H T ∧
  ∀ (ss : List (Addr × (Str × List Nat))) l H', SameB T H H' → LT H' T → H l = none → H' l = some (.lst (ss.map fun s => .ref s.1)) → (∀ s ∈ ss, SV H' s.1 s.2) → Pl ch nd n [] (ss.map (·.2)) → Q (.ref l) H'
theorem lt_up {H H1 : Hp} {T x : Addr} {xs : List V} {o : HO} (l : LT H T) (e : H x = some (.lst xs)) : LT (upd H x o) T := by
  rcases l with h | ⟨c', oc, vs, t, u, h1, h2, h3, h4⟩
  · exact .inl (by rw [upd_ne (fun z => by rw [z, e] at h; cases h)]; exact h)
  · exact .inr ⟨c', oc, vs, t, u, by rw [upd_ne (fun z => by rw [z, e] at h1; cases h1)]; exact h1, by rw [upd_ne (fun z => by rw [z, e] at h2; cases h2)]; exact h2, h3, h4⟩
theorem lst_ne {H : Hp} {T x : Addr} {xs : List V} (l : LT H T) (e : H x = some (.lst xs)) : x ≠ T := lamT_ne l e fun _ z => by cases z
theorem tup_ne {H : Hp} {T x : Addr} {xs : List V} (l : LT H T) (e : H x = some (.tup xs)) : x ≠ T := lamT_ne l e fun _ z => by cases z
section
variable {P : Program} {w : World} {K : PySem.W.Frag} {mg : Str → Option Value} {base : Heap}
theorem no_within {k : Nat} {f T : Addr} {fd : FuncData} : FnOk P w K mg base CX0 k f fd ["part", "path"] (spWithin T 0) := ⟨fun vs H Q E ⟨_, _, _, _, _, _, _, h, _⟩ => h.elim, fun A outer s H args us vs Q E _ _ _ _ ⟨_, _, _, _, _, _, _, h, _⟩ => h.elim⟩
theorem scWithin : FnScope ["part", "path", "steps", "place", "below", "word", "child"] ["part", "path"] (defScope sWithin) := ⟨rfl, rfl, rfl, by decide +kernel, rfl, by decide +kernel, by decide +kernel⟩
theorem ok_within {k n : Nat} {f T : Addr} {fd : FuncData} (F : Fun K "steps_within" "steps_within" sWithin f fd) (T' : Txt mg) (cS : Cal P w K mg base CX0 k "steps_within" ["part", "path"] (spWithin T n)) (cR : Cal P w K mg base CX0 k "recipes_by_need" ["children"] (spRecs T n)) : FnOk P w K mg base CX0 (k + 1) f fd ["part", "path"] (spWithin T (n + 1)) := by
  refine F.ok scWithin (fun vs H Q E h => ?_) (fun cdv A outer s H vs Q E hr h => ?_)
  · obtain ⟨_, _, _, _, _, rfl, _⟩ := h
    rfl
  · obtain ⟨v, pa, p, ch, nd, rfl, hpa, hf, c1, vp, wh, lt, k'⟩ := h
    refine ⟨_, (pss_cons (ps_set (i := 2) scWithin.nd rfl (Or.inl rfl) (pe_lst pa_nil))
      (pss_cons (ps_for PassesOwn.never rfl (pi_list (pe_cal cR hr rfl pass0 (pa_cons (pit 0 3) pa_nil))) (pg_name (i := 3) scWithin.nd rfl (Or.inl rfl))
        (pss_cons (ps_set (i := 4) scWithin.nd rfl (Or.inl rfl) (pe_op op_catTB (pv 1) (pe_tup (pa_cons (pv 3) pa_nil))))
        (pss_cons (ps_set (i := 5) scWithin.nd rfl (Or.inl rfl) (pe_ifExp (pt_cmpR (op_eqE hr.units) (pv 2) (pe_lst pa_nil) (nomark _)) pe_str pe_str))
        (pss_cons (ps_expr (pe_bm PySem.F.plainAttrs_list PySem.F.slot_list_extend PySem.F.type_list_extend mt_extend (pv 2) (pa_cons (pe_cal cS hr rfl pass0 (pa_cons (pe_ix ix_tup (pit 0 3) (pv 3) (fun _ _ => rfl)) (pa_cons (pv 4) pa_nil))) pa_nil)))
        (pss_one (ps_expr (pe_bm PySem.F.plainAttrs_list PySem.F.slot_list_append PySem.F.type_list_append mt_append (pv 2) (pa_cons (pe_tup (pa_cons (pv 5) (pa_cons (pv 4) pa_nil))) pa_nil))))))))
      (pss_cons (ps_for PassesOwn.never rfl (pi_enumT rfl T'.enum' (pa_cons (pit 0 3) pa_nil)) (pg_tup rfl (pgs_cons (pg_name (i := 3) scWithin.nd rfl (Or.inl rfl)) (pgs_cons (pg_name (i := 6) scWithin.nd rfl (Or.inl rfl)) pgs_nil)))
        (pss_one (ps_if (pt_cmpR op_eq (pit 6 0) pe_str (nomark _))
          (pss_one (ps_expr (pe_bm PySem.F.plainAttrs_list PySem.F.slot_list_append PySem.F.type_list_append mt_append (pv 2) (pa_cons (pe_tup (pa_cons pe_str (pa_cons (pe_op op_catTB (pv 1) (pe_tup (pa_cons (pv 3) pa_nil))) pa_nil))) pa_nil))))
          pss_nil)))
      (pss_one (ps_ret (pv 2)))))), ?_⟩
    have hf0 := hf
    rcases hf.2 with ⟨a, m, x, e, ha, c0, _⟩ | ⟨pp, m, q, x, vs, rfl, hp, hq, l1, l2, cl, hnd, hk⟩
    · have c0 : ch (p ++ []) = 0 := c0
      rw [List.append_nil] at c0
      omega
    have cl : ch (p ++ []) = vs.length := cl
    rw [List.append_nil] at cl
    have kids : ∀ (k : Nat) c, vs[k]? = some c → Hf H n c (shf (p ++ [k]) ch) (shf (p ++ [k]) nd) := fun k c h => by
      have := hk k c h
      rw [shf_snoc, shf_snoc] at this
      exact this
    have pl62 := wh.tt.deep p vp
    refine ⟨(by show 0 ≤ sizeLine; decide), fun St nSt => ?_⟩
    have sS := Same.upd (o := .lst []) nSt
    have hSt0 : upd H St (.lst []) St = some (.lst []) := upd_same
    have lt0 : LT (upd H St (.lst [])) T := LamT.keep lt sS
    generalize upd H St (.lst []) = H0 at sS hSt0 lt0 ⊢
    refine ⟨pp, _, _, rfl, SqT.of (sS _ _ hp), rfl, q, vs, p, ch, nd, rfl, sS _ _ hq, l2, cl.symm, fun k c h => (kids k c h).keep sS.tk, lt0, fun os R H1 sb1 lt1 nR hR pm pw => ?_⟩
    have StT : St ≠ T := lst_ne lt0 hSt0
    have hSt1 := sb1 _ _ StT hSt0
    have RS : R ≠ St := fun z => by rw [z, hSt0] at nR; cases nR
    have nR0 : H R = none := sS.free nR
    have RT : R ≠ T := lst_ne lt1 hR
    have sH1 : SameB T H H1 := (Same.b sS).trans sb1
    have hin : ∀ k ∈ os, k < ch p ∧ ch (p ++ [k]) ≠ 0 := fun k hk => by
      have := List.mem_filter.mp (pm.mem_iff.mp hk)
      exact ⟨List.mem_range.mp this.1, of_decide_eq_true this.2⟩
    have ppT : pp ≠ T := tup_ne lt hp
    have qT : q ≠ T := tup_ne lt hq
    have paT : pa ≠ T := tup_ne lt hpa
    refine ⟨R, rfl, ⟨_, SqL.of hR⟩, ?_⟩
    have rpok : ∀ {i : Nat} {g : List (Str × List Nat)}, Rp (fun k g' => Pl ch nd n (p ++ [k]) g') p (os.take i) g → g.length ≤ 100 := fun {i g} rp => by
      have ok := rp_ok wh.tt vp c1 (fun k g hk hc h => pl_ok wh.tt h (Vp.app.mpr ⟨vp, hk⟩) (by omega)) rp (fun k hk => hin k (List.mem_of_mem_take hk)) (pw.sublist (List.take_sublist ..))
      have := lg_len wh.tt ok.lg
      rw [List.length_map] at this
      have := wh.sz
      omega
    refine for_listN (fun i σ H' => ∃ (ss : List (Addr × (Str × List Nat))) (v3 v4 v5 : Option V), σ = [some (.ref pp), some (.ref pa), some (.ref St), v3, v4, v5, none] ∧ SameB T H H' ∧ LT H' T ∧ H' St = some (.lst (ss.map fun s => .ref s.1)) ∧ H' R = some (.lst (os.map fun (k : Nat) => V.int (k : Int))) ∧ (∀ s ∈ ss, SV H' s.1 s.2) ∧ Rp (fun k g' => Pl ch nd n (p ++ [k]) g') p (os.take i) (ss.map (·.2)))
      ⟨[], none, none, none, rfl, sH1, lt1, hSt1, hR, (fun _ h => nomatch h), Rp.nil⟩ (fun i σ H' _ hh => by obtain ⟨_, _, _, _, _, _, _, _, hR', _⟩ := hh; exact SqL.of hR') ?_ ?_
    · intro i xv σ H2 D hN hx hh
      obtain ⟨ss, v3, v4, v5, rfl, s2, lt2, hSt2, hR2, sv2, rp2⟩ := hh
      rw [List.getElem?_map] at hx
      obtain ⟨kk, hkk, rfl⟩ := Option.map_eq_some_iff.mp hx
      obtain ⟨kl, kc⟩ := hin kk (List.mem_of_getElem? hkk)
      have etk : os.take (i + 1) = os.take i ++ [kk] := by rw [List.take_add_one, hkk]; rfl
      obtain ⟨c, hck⟩ : ∃ c, vs[kk]? = some c := ⟨_, List.getElem?_eq_getElem (by omega)⟩
      have il : i < os.length := (List.getElem?_eq_some_iff.mp hkk).1
      refine ⟨_, rfl, _, rfl, (by show 1 ≤ sizeLine; decide), fun o no => ?_⟩
      have so := Same.upd (o := .tup [.int (kk : Int)]) no
      refine ⟨pa, o, _, _, rfl, rfl, SqT.of (so _ _ (s2 _ _ paT hpa)), upd_same, by simp, (by rw [List.length_map]; exact sz1000 (by show p.length + 1 ≤ 1000; omega)), fun pb H3 s3 hpb => ?_⟩
      have s23 : Same H2 H3 := so.trans s3
      have hSt3 := s23 _ _ hSt2
      have e0 : (ss.map fun s => V.ref s.1).isEmpty = decide (os.take i = []) := by
        have : ss = [] ↔ os.take i = [] := by
          constructor
          · intro e
            subst e
            generalize eg : ([] : List (Addr × (Str × List Nat))).map (·.2) = g at rp2
            generalize os.take i = oo at rp2 ⊢
            cases rp2 with
            | nil => rfl
            | snoc _ _ => simp at eg
          · intro e
            rw [e] at rp2
            generalize eo : ([] : List Nat) = oo at rp2
            generalize eg : ss.map (·.2) = g at rp2
            cases rp2 with
            | nil => simpa using eg
            | snoc _ _ => simp at eo
        cases ss with
        | nil => simp [this.mp rfl]
        | cons a b =>
          have : os.take i ≠ [] := fun z => by have := this.mpr z; cases this
          simp [this]
      dsimp only [gName]
      refine seq_nx (fun σ' H' => σ' = [some (.ref pp), some (.ref pa), some (.ref St), some (.int (kk : Int)), some (.ref pb), some (.str (if os.take i = [] then "keep" else "join")), none] ∧ Same H3 H') (fun σ' H4 hh => ?_) (fun N hN2 => ?_)
      rotate_left
      · refine ⟨_, rfl, (by show 0 ≤ sizeLine; decide), fun z hz => ?_⟩
        have sz := Same.upd (o := .lst []) hz
        refine ⟨St, z, _, rfl, rfl, SqL.of (sz _ _ hSt3), SqL.of upd_same, _, rfl, ?_⟩
        rw [e0]
        by_cases eo : os.take i = []
        · rw [decide_eq_true eo]
          exact iteT (hN2 _ _ ⟨by rw [if_pos eo]; rfl, sz⟩)
        · rw [decide_eq_false eo]
          exact iteF (hN2 _ _ ⟨by rw [if_neg eo]; rfl, sz⟩)
      obtain ⟨rfl, s34⟩ := hh
      have s24 := s23.trans s34
      have lt4 : LT H4 T := LamT.keep lt2 s24
      have hSt4 := s24 _ _ hSt2
      have sH4 : SameB T H H4 := s2.trans (Same.b s24)
      have hpb4 : H4 pb = some (.tup (pth (p ++ [kk]))) := by rw [s34 _ _ hpb, pth_snoc]
      have tk4 : Tk H H4 := sB_tk sH4 lt
      refine ⟨_, rfl, .inl ⟨rfl, _, SqL.of hSt4⟩, pp, _, _, rfl, SqT.of (tk4 _ _ hp), rfl, _, rfl, q, _, (kk : Int), c, rfl, rfl, SqT.of (tk4 _ _ hq), atI_nat hck, _, rfl, c, pb, p ++ [kk], ch, nd, rfl, hpb4, (kids kk c hck).keep tk4, by omega, Vp.app.mpr ⟨vp, kl⟩, wh, lt4, fun ss' l' H5 sb5 lt5 nl5 hl5 sv5 pl5 => ?_⟩
      have hSt5 := sb5 _ _ (lst_ne lt4 hSt4) hSt4
      have tk5 := sB_tk sb5 lt4
      have rp' := rp2.snoc pl5
      have tot := rpok (i := i + 1) (g := (ss.map (·.2)) ++ ss'.map (·.2) ++ [((if os.take i = [] then "keep" else "join" : Str), p ++ [kk])]) (by rw [etk]; exact rp')
      rw [List.length_append, List.length_append, List.length_map, List.length_map] at tot
      refine ⟨St, l', _, _, rfl, rfl, hSt5, hl5, ?_, ?_⟩
      · rw [List.length_map, List.length_map]
        exact sz1000 (by omega)
      have em : (ss.map fun s => V.ref s.1) ++ (ss'.map fun s => V.ref s.1) = (ss ++ ss').map fun s => V.ref s.1 := by rw [List.map_append]
      rw [em]
      have hSt6 : upd H5 St (.lst ((ss ++ ss').map fun s => V.ref s.1)) St = some (.lst ((ss ++ ss').map fun s => V.ref s.1)) := upd_same
      have lt6 : LT (upd H5 St (.lst ((ss ++ ss').map fun s => V.ref s.1))) T := lt_up (H1 := H5) lt5 hSt5
      have tk6 : Tk H5 (upd H5 St (.lst ((ss ++ ss').map fun s => V.ref s.1))) := Tk.lst hSt5
      have sH6 : SameB T H (upd H5 St (.lst ((ss ++ ss').map fun s => V.ref s.1))) := sB_own (sH4.trans sb5) nSt
      have hR6 : upd H5 St (.lst ((ss ++ ss').map fun s => V.ref s.1)) R = some (.lst (os.map fun (k : Nat) => V.int (k : Int))) := by rw [upd_ne RS]; exact sb5 _ _ RT (s24 _ _ hR2)
      generalize upd H5 St (.lst ((ss ++ ss').map fun s => V.ref s.1)) = H6 at hSt6 lt6 tk6 sH6 hR6 ⊢
      refine ⟨_, rfl, .inl ⟨rfl, _, SqL.of hSt6⟩, _, rfl, _, rfl, (by show 2 ≤ sizeLine; decide), fun z nz => ?_⟩
      have sz := Same.upd (o := .tup [.str (if os.take i = [] then "keep" else "join"), .ref pb]) nz
      refine ⟨St, _, _, rfl, rfl, sz _ _ hSt6, small1000 (by rw [List.length_map, List.length_append]; omega), ?_⟩
      have zS : z ≠ St := fun e => by rw [e, hSt6] at nz; cases nz
      have tk7 : Tk H6 (upd (upd H6 z (.tup [.str (if os.take i = [] then "keep" else "join"), .ref pb])) St (.lst (((ss ++ ss').map fun s => V.ref s.1) ++ [.ref z]))) := sz.tk.trans (Tk.lst (sz _ _ hSt6))
      refine hN _ _ ⟨ss ++ ss' ++ [(z, ((if os.take i = [] then "keep" else "join" : Str), p ++ [kk]))], _, _, _, rfl, sB_own (sH6.trans (Same.b sz)) nSt, lt_up (H1 := H6) (LamT.keep lt6 sz) (sz _ _ hSt6), ?_, ?_, fun s hs => ?_, ?_⟩
      · rw [upd_same, List.map_append (l₂ := [(z, _)])]
        rfl
      · rw [upd_ne RS]
        exact sz _ _ hR6
      · rcases List.mem_append.mp hs with hs | hs
        · rcases List.mem_append.mp hs with hs | hs
          · exact ((sv2 s hs).keep (s24.tk.trans (tk5.trans tk6))).keep tk7
          · exact ((sv5 s hs).keep tk6).keep tk7
        · rw [List.mem_singleton.mp hs]
          exact ⟨pb, by rw [upd_ne zS]; exact upd_same, tk7 _ _ (tk6 _ _ (tk5 _ _ hpb4))⟩
      · rw [etk, List.map_append, List.map_append]
        exact rp'
    · intro σ H2 hh
      obtain ⟨ss, v3, v4, v5, rfl, s2, lt2, hSt2, hR2, sv2, rp2⟩ := hh
      rw [List.length_map, List.take_length] at rp2
      have tk2 := sB_tk s2 lt
      have hpl : ∀ ws : List Nat, (ss.map (·.2) ++ ws.map fun k => (("put" : Str), p ++ [k])).length = ss.length + ws.length := fun ws => by simp
      have rl := rpok (i := os.length) (g := ss.map (·.2)) (by rw [List.take_length]; exact rp2)
      rw [List.length_map] at rl
      refine ⟨pp, _, _, rfl, SqT.of (tk2 _ _ hp), rfl, q, rfl, ⟨_, SqT.of (tk2 _ _ hq)⟩, ?_⟩
      refine for_enumT (K := K) (b := q) (ys := vs) (fun i σ H' => ∃ (ts : List (Addr × (Str × List Nat))) (v3 v6 : Option V), σ = [some (.ref pp), some (.ref pa), some (.ref St), v3, v4, v5, v6] ∧ SameB T H H' ∧ LT H' T ∧ H' St = some (.lst (ts.map fun s => .ref s.1)) ∧ (∀ s ∈ ts, SV H' s.1 s.2) ∧
        ts.map (·.2) = ss.map (·.2) ++ ((List.range i).filter fun k => decide (ch (p ++ [k]) = 0)).map fun k => (("put" : Str), p ++ [k]))
        ⟨ss, _, none, rfl, s2, lt2, hSt2, sv2, by simp⟩ (fun i σ H' _ hh => by obtain ⟨_, _, _, _, sm, _⟩ := hh; exact SqT.of (sB_tk sm lt _ _ hq)) ?_ ?_
      · intro i y T1 σ H3 hy nT1 hh
        obtain ⟨ts, w3, w6, rfl, s3, lt3, hSt3, sv3, em3⟩ := hh
        have hi : i < vs.length := (List.getElem?_eq_some_iff.mp hy).1
        have st := Same.upd (o := .tup [.int (i : Nat), y]) nT1
        have hT1 : upd H3 T1 (.tup [.int (i : Nat), y]) T1 = some (.tup [.int (i : Nat), y]) := upd_same
        have lt4 : LT (upd H3 T1 (.tup [.int (i : Nat), y])) T := LamT.keep lt3 st
        have s4 : SameB T H (upd H3 T1 (.tup [.int (i : Nat), y])) := s3.trans (Same.b st)
        generalize upd H3 T1 (.tup [.int (i : Nat), y]) = H4 at st hT1 lt4 s4 ⊢
        have tk4 := sB_tk s4 lt
        have hSt4 := st _ _ hSt3
        have er : List.range (i + 1) = List.range i ++ [i] := List.range_succ
        obtain ⟨a, m', x', yk, r', rfl, ha, alt⟩ := hf_kind ((kids i y hy).keep tk4)
        have tl : ts.length ≤ 300 := by
          have h1 := congrArg List.length em3
          rw [List.length_map, hpl] at h1
          have h2 : ((List.range i).filter fun k => decide (ch (p ++ [k]) = 0)).length ≤ (List.range i).length := List.length_filter_le _ _
          rw [List.length_range] at h2
          omega
        refine ⟨T1, _, rfl, SqT.of hT1, rfl, _, _, rfl, _, _, rfl, rfl, ?_⟩
        refine ⟨a, _, _, rfl, SqT.of ha, rfl, rfl, _, rfl, ?_⟩
        rcases alt with ⟨rfl, c0⟩ | ⟨rfl, c0⟩
        · refine iteT ⟨_, rfl, .inl ⟨rfl, _, SqL.of hSt4⟩, _, rfl, _, rfl, (by show 1 ≤ sizeLine; decide), fun o no => ?_⟩
          have so := Same.upd (o := .tup [.int (i : Int)]) no
          refine ⟨pa, o, _, _, rfl, rfl, SqT.of (so _ _ (tk4 _ _ hpa)), upd_same, by simp, (by rw [List.length_map]; exact sz1000 (by show p.length + 1 ≤ 1000; omega)), fun pb H5 s5 hpb => ?_⟩
          have s45 : Same H4 H5 := so.trans s5
          refine ⟨(by show 2 ≤ sizeLine; decide), fun z nz => ?_⟩
          have sz := Same.upd (o := .tup [.str "put", .ref pb]) nz
          have hSt6 := sz _ _ (s45 _ _ hSt4)
          refine ⟨St, _, _, rfl, rfl, hSt6, small1000 (by rw [List.length_map]; omega), ?_⟩
          have zS : z ≠ St := fun e => by rw [e, s45 _ _ hSt4] at nz; cases nz
          have tk7 : Tk H5 (upd (upd H5 z (.tup [.str "put", .ref pb])) St (.lst ((ts.map fun s => V.ref s.1) ++ [.ref z]))) := sz.tk.trans (Tk.lst hSt6)
          refine ⟨ts ++ [(z, (("put" : Str), p ++ [i]))], _, _, rfl, sB_own (s4.trans (Same.b (s45.trans sz))) nSt, lt_up (H1 := H5) (LamT.keep lt4 (s45.trans sz)) hSt6, ?_, fun s hs => ?_, ?_⟩
          · rw [upd_same, List.map_append (l₂ := [(z, _)])]
            rfl
          · rcases List.mem_append.mp hs with hs | hs
            · exact (sv3 s hs).keep (st.tk.trans (s45.tk.trans tk7))
            · rw [List.mem_singleton.mp hs]
              exact ⟨pb, by rw [upd_ne zS]; exact upd_same, tk7 _ _ (by rw [hpb, pth_snoc])⟩
          · rw [List.map_append, em3, er, List.filter_append, List.map_append, List.filter_cons, if_pos (by simpa using c0), List.append_assoc]
            rfl
        · refine iteF ⟨ts, _, _, rfl, s4, lt4, hSt4, fun s hs => (sv3 s hs).keep st.tk, ?_⟩
          rw [em3, er, List.filter_append, List.map_append, List.filter_cons, if_neg (by simpa using c0)]
          simp
      · intro σ H3 hh
        obtain ⟨ts, w3, w6, rfl, s3, lt3, hSt3, sv3, em3⟩ := hh
        refine ⟨_, rfl, k' ts St H3 s3 lt3 nSt hSt3 sv3 ⟨os, ss.map (·.2), pm, pw, rp2, ?_⟩⟩
        rw [em3, ← cl]
        rfl
theorem scStepsOf : FnScope ["tree"] ["tree"] (defScope sStepsOf) := ⟨rfl, rfl, rfl, by decide +kernel, rfl, by decide +kernel, by decide +kernel⟩
theorem ok_stepsof {k n : Nat} {f T : Addr} {fd : FuncData} (F : Fun K "steps_of" "steps_of" sStepsOf f fd) (cS : Cal P w K mg base CX0 k "steps_within" ["part", "path"] (spWithin T n)) : FnOk P w K mg base CX0 (k + 1) f fd ["tree"] (spStepsOf T n) := by
  refine F.ok scStepsOf (fun vs H Q E h => ?_) (fun cdv A outer s H vs Q E hr h => ?_)
  · obtain ⟨_, _, _, rfl, _⟩ := h
    rfl
  · obtain ⟨v, ch, nd, rfl, hf, c1, wh, lt, k'⟩ := h
    refine ⟨_, (pss_one (ps_ret (pe_cal cS hr rfl pass0 (pa_cons (pv 0) (pa_cons (pe_tup pa_nil) pa_nil))))), ?_⟩
    refine ⟨_, rfl, (by show 0 ≤ sizeLine; decide), fun z hz => ?_⟩
    have sz := Same.upd (o := .tup []) hz
    refine ⟨v, z, [], ch, nd, rfl, upd_same, ?_, c1, trivial, wh, LamT.keep lt sz, fun ss l H' sb lt' nl hl sv pl => k' ss l H' ((Same.b sz).trans sb) lt' (sz.free nl) hl sv pl⟩
    exact hf.keep sz.tk
end
end K43

set_option maxHeartbeats 2000000
namespace K43
open PySem PySem.Spec PyProof.Rows L2 GM TM TR
theorem ne_ob {H : Hp} {a b : Addr} {o u : HO} (h1 : H a = some o) (h2 : H b = some u) (n : o ≠ u) : a ≠ b := fun z => by rw [z, h2] at h1; exact n (Option.some.inj h1).symm
theorem tk_dT {H : Hp} {a : Addr} {k : List (List Key × V)} {o : HO} (h : H a = some (.dT k)) : Tk H (upd H a o) := fun b ys e => by rw [upd_ne (ne_ob e h (by simp))]; exact e
theorem tk_dK {H : Hp} {a : Addr} {k : List (Key × V)} {o : HO} (h : H a = some (.dK k)) : Tk H (upd H a o) := fun b ys e => by rw [upd_ne (ne_ob e h (by simp))]; exact e
theorem cnt_le_ch {ch : List Nat → Nat} {g : List (List Nat)} {q : List Nat} (l : Lg ch g) : cnt g q ≤ ch q := by
  have nd1 : (g.filter fun p => decide (p ≠ [] ∧ p.dropLast = q)).Nodup := l.nodup.sublist List.filter_sublist
  have := nd_len nd1 (b := (List.range (ch q)).map fun k => q ++ [k]) fun x hx => by
    obtain ⟨m, h⟩ := List.mem_filter.mp hx
    rw [decide_eq_true_eq] at h
    obtain ⟨y, k, rfl⟩ : ∃ y k, x = y ++ [k] := ⟨x.dropLast, x.getLast h.1, (List.dropLast_concat_getLast h.1).symm⟩
    have e : y = q := by simpa using h.2
    subst e
    exact List.mem_map.mpr ⟨k, List.mem_range.mpr (Vp.app.mp (l.mem m).1).2, rfl⟩
  simpa [TR.cnt] using this
theorem cnt_pos {g : List (List Nat)} {q : List Nat} {j : Nat} (h : q ++ [j] ∈ g) : 1 ≤ cnt g q := by
  unfold TR.cnt
  exact List.length_pos_of_mem (List.mem_filter.mpr ⟨h, by simp⟩)
theorem cnt_zero {g : List (List Nat)} {q : List Nat} (h : cnt g q = 0) (j : Nat) : q ++ [j] ∉ g := fun m => by
  have := cnt_pos m
  omega
/-- what lies in the recipes -/
structure CnI (H0 H : Hp) (kc : List (List Key × V)) (g : List (List Nat)) (ha : List Nat → Addr) (kh : List Nat → List (Key × V)) : Prop where
  zero : ∀ q, cnt g q = 0 → valV kc (pk q) = none
  som : ∀ q, 1 ≤ cnt g q → valV kc (pk q) = some (.ref (ha q)) ∧ H (ha q) = some (.dK (kh q)) ∧ H0 (ha q) = none ∧ (kh q).length = cnt g q ∧ ∀ j : Nat, (valV (kh q) (Sum.inl (j : Int))).isSome = true ↔ q ++ [j] ∈ g
  inj : ∀ q q', 1 ≤ cnt g q → 1 ≤ cnt g q' → ha q = ha q' → q = q'
  len : kc.length ≤ g.length
structure Wk (H0 H : Hp) (Hv Co Go : Addr) (kv kc kg : List (List Key × V)) (g : List (List Nat)) (ha : List Nat → Addr) (kh : List Nat → List (Key × V)) : Prop where
  sm : Same H0 H
  v : H Hv = some (.dT kv)
  c : H Co = some (.dT kc)
  gd : H Go = some (.dT kg)
  cn : CnI H0 H kc g ha kh
theorem CnI.keep {H0 H H' : Hp} {kc : List (List Key × V)} {g : List (List Nat)} {ha : List Nat → Addr} {kh : List Nat → List (Key × V)} (x : CnI H0 H kc g ha kh) (t : ∀ b k, H b = some (.dK k) → H' b = some (.dK k)) : CnI H0 H' kc g ha kh :=
  ⟨x.zero, fun q h => let ⟨a, b, c⟩ := x.som q h; ⟨a, t _ _ b, c⟩, x.inj, x.len⟩
section
variable {H0 H H' : Hp} {Hv Co Go : Addr} {kv kc kg : List (List Key × V)} {g : List (List Nat)} {ha : List Nat → Addr} {kh : List Nat → List (Key × V)}
theorem Wk.keep (x : Wk H0 H Hv Co Go kv kc kg g ha kh) (t : Same H H') : Wk H0 H' Hv Co Go kv kc kg g ha kh := ⟨x.sm.trans t, t _ _ x.v, t _ _ x.c, t _ _ x.gd, x.cn.keep fun b k e => t _ _ e⟩
theorem dk_up {a b : Addr} {k : List (Key × V)} {k' : List (List Key × V)} {o : HO} (h : H a = some (.dT k')) (e : H b = some (.dK k)) : upd H a o b = some (.dK k) := by rw [upd_ne (ne_ob e h (by simp))]; exact e
theorem Wk.setv {k : List (List Key × V)} (x : Wk H0 H Hv Co Go kv kc kg g ha kh) (n : H0 Hv = none) (n1 : Co ≠ Hv) (n2 : Go ≠ Hv) : Wk H0 (upd H Hv (.dT k)) Hv Co Go k kc kg g ha kh :=
  ⟨sm_own x.sm n, upd_same, by rw [upd_ne n1]; exact x.c, by rw [upd_ne n2]; exact x.gd, x.cn.keep fun b k e => dk_up x.v e⟩
theorem Wk.setg {k : List (List Key × V)} (x : Wk H0 H Hv Co Go kv kc kg g ha kh) (n : H0 Go = none) (n1 : Co ≠ Go) (n2 : Hv ≠ Go) : Wk H0 (upd H Go (.dT k)) Hv Co Go kv kc k g ha kh :=
  ⟨sm_own x.sm n, by rw [upd_ne n2]; exact x.v, by rw [upd_ne n1]; exact x.c, upd_same, x.cn.keep fun b k e => dk_up x.gd e⟩
/-- a part put into a recipe: its dict is at h by now, with what kh0 tells -/
theorem Wk.held {y : List Nat} {j : Nat} {h : Addr} {kh0 : List (Key × V)} {kc' : List (List Key × V)} (sm : Same H0 H) (hv : H Hv = some (.dT kv)) (hc : H Co = some (.dT kc')) (hg : H Go = some (.dT kg)) (lg : kc'.length ≤ g.length + 1) (hh : H h = some (.dK kh0)) (hn : H0 h = none)
    (x0 : ∀ q, cnt g q = 0 → q ≠ y → valV kc' (pk q) = none) (xs : ∀ q, 1 ≤ cnt g q → q ≠ y → valV kc' (pk q) = some (.ref (ha q)) ∧ H (ha q) = some (.dK (kh q)) ∧ H0 (ha q) = none ∧ (kh q).length = cnt g q ∧ ∀ j : Nat, (valV (kh q) (Sum.inl (j : Int))).isSome = true ↔ q ++ [j] ∈ g)
    (xi : ∀ q q', 1 ≤ cnt g q → 1 ≤ cnt g q' → ha q = ha q' → q = q') (xn : ∀ q, 1 ≤ cnt g q → q ≠ y → ha q ≠ h) (vy : valV kc' (pk y) = some (.ref h)) (ly : kh0.length = cnt g y) (my : ∀ i : Nat, (valV kh0 (Sum.inl (i : Int))).isSome = true ↔ y ++ [i] ∈ g) (no : y ++ [j] ∉ g) :
    Wk H0 (upd H h (.dK (putK kh0 (Sum.inl (j : Int)) (.bl true)))) Hv Co Go kv kc' kg (g ++ [y ++ [j]]) (fun q => if q = y then h else ha q) (fun q => if q = y then putK kh0 (Sum.inl (j : Int)) (.bl true) else kh q) := by
  have vno : valV kh0 (Sum.inl (j : Int)) = none := by
    cases e : valV kh0 (Sum.inl (j : Int)) with
    | none => rfl
    | some v => exact absurd ((my j).mp (by rw [e]; rfl)) no
  have pos : ∀ q, q ≠ y → cnt (g ++ [y ++ [j]]) q = cnt g q := fun q hq => by rw [cnt_snoc, if_neg hq]; rfl
  have posy : cnt (g ++ [y ++ [j]]) y = cnt g y + 1 := by rw [cnt_snoc, if_pos rfl]
  have dT : ∀ {a k}, H a = some (.dT k) → upd H h (.dK (putK kh0 (Sum.inl (j : Int)) (.bl true))) a = some (.dT k) := fun {a k} e => by rw [upd_ne (ne_ob e hh (by simp))]; exact e
  refine ⟨sm_own sm hn, dT hv, dT hc, dT hg, fun q hq => ?_, fun q hq => ?_, fun q q' h1 h2 e => ?_, by rw [List.length_append]; exact lg⟩
  · by_cases e : q = y
    · subst e
      rw [posy] at hq
      omega
    · rw [pos q e] at hq
      exact x0 q hq e
  · by_cases e : q = y
    · subst e
      rw [if_pos rfl, if_pos rfl]
      refine ⟨vy, upd_same, hn, ?_, fun i => ?_⟩
      · rw [putK_new _ vno, List.length_append, posy, ly]
        rfl
      · rw [valV_put, List.mem_append, List.mem_singleton]
        by_cases ei : i = j
        · subst ei
          rw [if_pos rfl]
          simp
        · rw [if_neg (fun z => ei (by injection z with z; omega)), my i]
          constructor
          · exact .inl
          · rintro (h | h)
            · exact h
            · exact absurd (by simpa using h) ei
    · rw [if_neg e, if_neg e]
      rw [pos q e] at hq ⊢
      obtain ⟨a1, a2, a3, a4, a5⟩ := xs q hq e
      refine ⟨a1, by rw [upd_ne (xn q hq e)]; exact a2, a3, a4, fun i => ?_⟩
      rw [a5 i, List.mem_append, List.mem_singleton]
      constructor
      · exact .inl
      · rintro (h | h)
        · exact h
        · exact absurd (List.append_inj_left' h rfl) e
  · by_cases e1 : q = y
    · by_cases e2 : q' = y
      · rw [e1, e2]
      · rw [if_pos e1, if_neg e2] at e
        rw [pos q' e2] at h2
        exact absurd e.symm (xn q' h2 e2)
    · by_cases e2 : q' = y
      · rw [if_neg e1, if_pos e2] at e
        rw [pos q e1] at h1
        exact absurd e (xn q h1 e1)
      · rw [if_neg e1, if_neg e2] at e
        rw [pos q e1] at h1
        rw [pos q' e2] at h2
        exact xi q q' h1 h2 e
end
def spWalk : Sp := fun vs H Q _ => ∃ (root : V) (l : Addr) (ch : List Nat → Nat) (nd : List Nat → Int) (ss : List (Addr × (Str × List Nat))), vs = [root, .ref l] ∧ Hf H 62 root ch nd ∧ 1 ≤ ch [] ∧ Wh ch nd ∧ H l = some (.lst (ss.map fun s => .ref s.1)) ∧ (∀ s ∈ ss, SV H s.1 s.2) ∧ PlOk ch (nd []) (ss.map (·.2)) (fun q => Vp ch q ∧ q ≠ []) ∧
  ∀ H', Same H H' → Q (.int (wd ch ((ss.map (·.2)).map (·.2)))) H'
section
variable {P : Program} {w : World} {K : PySem.W.Frag} {mg : Str → Option Value} {base : Heap}
theorem scWalk : FnScope ["_law_root_here", "_law_listed", "_law_having", "_law_contents", "_law_gone", "_law_width", "_law_step", "_law_part", "_law_above", "_law_held"] ["_law_root_here", "_law_listed"] (defScope sWalk) := ⟨rfl, rfl, rfl, by decide +kernel, rfl, by decide +kernel, by decide +kernel⟩
theorem ok_walk {f : Addr} {fd : FuncData} (F : Fun K "_law_walk" "_law_walk" sWalk f fd) (T : Txt mg) (cA : Cal P w K mg base CX0 2 "_law_at" ["_law_root_here", "_law_path"] spAt) : FnOk P w K mg base CX0 3 f fd ["_law_root_here", "_law_listed"] spWalk := by
  refine F.ok scWalk (fun vs H Q E h => ?_) (fun cdv A outer s H vs Q E hr h => ?_)
  · obtain ⟨_, _, _, _, _, rfl, _⟩ := h
    rfl
  · obtain ⟨root, l, ch, nd, ss, rfl, hf, c1, wh, hl, sv, ok, k⟩ := h
    refine ⟨_, (pss_cons (ps_set (i := 2) scWalk.nd rfl (Or.inl rfl) pe_dnewT)
      (pss_cons (ps_set (i := 3) scWalk.nd rfl (Or.inl rfl) pe_dnewT)
      (pss_cons (ps_set (i := 4) scWalk.nd rfl (Or.inl rfl) pe_dnewT)
      (pss_cons (ps_set (i := 5) scWalk.nd rfl (Or.inl rfl) pe_int)
      (pss_cons (ps_for PassesOwn.never rfl (pi_list (pv 1)) (pg_name (i := 6) scWalk.nd rfl (Or.inl rfl))
        (pss_cons (ps_if (PW.pt (pw_or (pt_not (pt_val (pe_callB call_isi rfl T.isi boot_isinstance (pa_cons (pv 6) (pa_cons (pe_bltn (v := .ty "tuple") rfl T.tup' bt_tuple rfl) pa_nil))))) (pw_or (pt_cmpR op_ne (pe_callB call_len_seq rfl T.len PySem.boot_len (pa_cons (pv 6) pa_nil)) pe_int (nomark _)) (pw_or1 (pt_cmpR (op_eqI hr.units) (pit 6 1) (pe_tup pa_nil) (nomark _))))))
          (pss_one (ps_ret pe_non))
          pss_nil)
        (pss_cons (ps_set (i := 7) scWalk.nd rfl (Or.inl rfl) (pe_cal cA hr rfl pass0 (pa_cons (pv 0) (pa_cons (pit 6 1) pa_nil))))
        (pss_cons (ps_if (PW.pt (pw_or (pt_cmpR op_isN (pv 7) pe_non (nomark _)) (pw_or1 (pt_cmp (pc_din (hu_of hr) (pit 6 1) (pv 4))))))
          (pss_one (ps_ret pe_non))
          pss_nil)
        (pss_cons (ps_set (i := 8) scWalk.nd rfl (Or.inl rfl) (pe_slice sl_tupA (pit 6 1) po_none (po_some (pe_un un_neg pe_int))))
        (pss_cons (ps_if (PW.pt (pw_and (pt_cmpR op_eq (pit 6 0) pe_str (nomark _)) (pw_and1 (pt_cmpR op_ne (pit 7 0) pe_str (nomark _)))))
          (pss_one (ps_ret pe_non))
          pss_nil)
        (pss_cons (ps_if (pt_cmpR op_ne (pit 6 0) pe_str (nomark _))
          (pss_cons (ps_if (PW.pt (pw_or (pt_cmpR op_ne (pit 7 0) pe_str (nomark _)) (pw_or1 (pt_cmpR op_ne (pe_callB call_lenD rfl T.len PySem.boot_len (pa_cons (pe_dget2 (hu_of hr) (pv 3) (pit 6 1) pe_dnewK ⟨rfl, rfl, rfl, rfl⟩) pa_nil)) (pe_callB call_len_seq rfl T.len PySem.boot_len (pa_cons (pit 7 3) pa_nil)) (nomark _)))))
            (pss_one (ps_ret pe_non))
            pss_nil)
          (pss_cons (ps_if (PW.pt (pw_or (pt_cmpR op_notIn_seq (pit 6 0) (pe_tup (pa_cons pe_str (pa_cons pe_str pa_nil))) rfl) (pw_or1 (pt_cmpR op_ne (pe_cmpR op_eq (pit 6 0) pe_str (nomark _)) (pe_cmp (pc_din (hu_of hr) (pv 8) (pv 2))) (nomark _)))))
            (pss_one (ps_ret pe_non))
            pss_nil)
          (pss_one (ps_expr (pe_dpopT (hu_of hr) (pv 2) (pit 6 1) ⟨rfl, rfl, rfl, rfl⟩)))))
          pss_nil)
        (pss_cons (ps_dput (hu_of hr) (pv 2) (pv 8) pe_bl rfl)
        (pss_cons (ps_set (i := 9) scWalk.nd rfl (Or.inl rfl) (pe_dsetdT (hu_of hr) (pv 3) (pv 8) pe_dnewK ⟨rfl, rfl, rfl, rfl⟩))
        (pss_cons (ps_dput (hu_of hr) (pv 9) (pe_ix ix_tup (pit 6 1) (pe_un un_neg pe_int) (fun _ _ => rfl)) pe_bl rfl)
        (pss_cons (ps_dput (hu_of hr) (pv 4) (pit 6 1) pe_bl rfl)
        (pss_one (ps_set (i := 5) scWalk.nd rfl (Or.inl rfl) (pe_callB (call_max2 rfl) rfl T.max' boot_max (pa_cons (pv 5) (pa_cons (pe_callB call_lenD rfl T.len PySem.boot_len (pa_cons (pv 2) pa_nil)) pa_nil))))))))))))))))
      (pss_cons (ps_if (pt_cmpR op_ne (pe_callB call_lenD rfl T.len PySem.boot_len (pa_cons (pe_dget2 (hu_of hr) (pv 3) (pe_tup pa_nil) pe_dnewK ⟨rfl, rfl, rfl, rfl⟩) pa_nil)) (pe_callB call_len_seq rfl T.len PySem.boot_len (pa_cons (pit 0 3) pa_nil)) (nomark _))
        (pss_one (ps_ret pe_non))
        pss_nil)
      (pss_one (ps_ret (pv 5))))))))), ?_⟩
    refine fun Hv nH => ?_
    have t1 := Same.upd (o := .dT []) nH
    refine fun Co nC => ?_
    have t2 := Same.upd (o := .dT []) nC
    refine fun Go nG => ?_
    have t3 := Same.upd (o := .dT []) nG
    have V0 := nH
    have C0 : H Co = none := t1.free nC
    have G0 : H Go = none := (t1.trans t2).free nG
    have vc : Hv ≠ Co := fun z => by rw [← z, upd_same] at nC; cases nC
    have cg : Co ≠ Go := fun z => by rw [← z, upd_same] at nG; cases nG
    have vg : Hv ≠ Go := fun z => by rw [← z, upd_ne vc, upd_same] at nG; cases nG
    have wk0 : Wk H (upd (upd (upd H Hv (.dT [])) Co (.dT [])) Go (.dT [])) Hv Co Go [] [] [] [] (fun _ => Go) (fun _ => []) :=
      ⟨(t1.trans t2).trans t3, by rw [upd_ne vg, upd_ne vc, upd_same], by rw [upd_ne cg, upd_same], upd_same, fun q _ => rfl, fun q h => absurd h (by show ¬ 1 ≤ 0; decide), fun q q' h => absurd h (by show ¬ 1 ≤ 0; decide), Nat.le_refl _⟩
    generalize upd (upd (upd H Hv (.dT [])) Co (.dT [])) Go (.dT []) = H1 at wk0 ⊢
    clear t1 t2 t3 nC nG nH
    have tt := wh.tt
    have len := lg_len tt ok.lg
    rw [List.length_map, List.length_map] at len
    have sz := wh.sz
    refine ⟨_, rfl, l, rfl, ⟨_, SqL.of (wk0.sm _ _ hl)⟩, ?_⟩
    refine for_listN (fun i σ H' => ∃ (kc kg : List (List Key × V)) (ha : List Nat → Addr) (kh : List Nat → List (Key × V)) (v6 v7 v8 v9 : Option V), σ = [some root, some (.ref l), some (.ref Hv), some (.ref Co), some (.ref Go), some (.int (wd ch (((ss.map (·.2)).map (·.2)).take i))), v6, v7, v8, v9] ∧
      Wk H H' Hv Co Go (hv ch (((ss.map (·.2)).map (·.2)).take i)) kc kg (((ss.map (·.2)).map (·.2)).take i) ha kh ∧ (∀ q, (valV kg (pk q)).isSome = true ↔ q ∈ ((ss.map (·.2)).map (·.2)).take i) ∧ kg.length ≤ i)
      ⟨[], [], _, _, none, none, none, none, rfl, wk0, fun q => by simp [valV], Nat.le_refl _⟩ (fun i σ H' _ hh => by obtain ⟨_, _, _, _, _, _, _, _, _, wk, _⟩ := hh; exact SqL.of (wk.sm _ _ hl)) ?_ ?_
    · intro i xv σ H2 D hN hx hh
      obtain ⟨kc, kg, ha, kh, v6, v7, v8, v9, rfl, wk, kgm, kgl⟩ := hh
      rw [List.getElem?_map] at hx
      obtain ⟨⟨st, wo, ks⟩, hi, rfl⟩ := Option.map_eq_some_iff.mp hx
      obtain ⟨pa, h1, hpa⟩ := (sv _ (List.mem_of_getElem? hi)).keep wk.sm.tk
      dsimp only at h1 hpa
      have il : i < ss.length := (List.getElem?_eq_some_iff.mp hi).1
      have ei : (ss.map (·.2))[i]? = some (wo, ks) := by rw [List.getElem?_map, hi]; rfl
      have ei2 : ((ss.map (·.2)).map (·.2))[i]? = some ks := by rw [List.getElem?_map, ei]; rfl
      have et : ((ss.map (·.2)).map (·.2)).take (i + 1) = ((ss.map (·.2)).map (·.2)).take i ++ [ks] := by rw [List.take_add_one, ei2]; rfl
      have sp : ss.map (·.2) = (ss.map (·.2)).take i ++ (wo, ks) :: (ss.map (·.2)).drop (i + 1) := by
        have hl' : i < (ss.map (·.2)).length := by rw [List.length_map]; exact il
        conv => lhs; rw [← List.take_append_drop i (ss.map (·.2))]
        rw [List.drop_eq_getElem_cons hl']
        congr 2
        rw [List.getElem?_eq_getElem hl'] at ei
        exact Option.some.inj ei
      have wok := ok.wo _ wo ks _ sp
      rw [List.map_take] at wok
      have lgi : Lg ch (((ss.map (·.2)).map (·.2)).take i ++ [ks]) := et ▸ ok.lg.pre (List.take_prefix ..)
      have gl : (((ss.map (·.2)).map (·.2)).take i).length = i := by rw [List.length_take, List.length_map, List.length_map]; omega
      generalize hg : ((ss.map (·.2)).map (·.2)).take i = g at wk kgm lgi gl wok et ⊢
      obtain ⟨vk, ne, no, kd⟩ := lgi g ks [] rfl
      have lg := lgi.init
      obtain ⟨y, j, rfl⟩ : ∃ y j, ks = y ++ [j] := ⟨ks.dropLast, ks.getLast ne, (List.dropLast_concat_getLast ne).symm⟩
      obtain ⟨m, u, en, ap, hu⟩ := hf.at vk
      have hu2 := hu.keep wk.sm.tk
      have ap2 := ap.keep wk.sm.tk
      -- is it a step at all
      refine ⟨_, rfl, .ref st, "tuple", true, rfl, .tup_tuple (SqT.of h1), _, rfl, iteF ⟨_, rfl, st, _, rfl, .inr (SqT.of h1), rfl, _, rfl, iteF ⟨st, _, _, rfl, SqT.of h1, rfl, (by show 0 ≤ sizeLine; decide), fun z hz => ?_⟩⟩⟩
      have sz0 := Same.upd (o := .tup []) hz
      have hz0 : upd H2 z (.tup []) z = some (.tup []) := upd_same
      have wk1 := wk.keep sz0
      have h1' := sz0 _ _ h1
      have hpa' := sz0 _ _ hpa
      have ap3 := ap2.keep sz0.tk
      have hu3 := hu2.keep sz0.tk
      generalize upd H2 z (.tup []) = H3 at sz0 hz0 wk1 h1' hpa' ap3 hu3 ⊢
      refine ⟨pa, z, ksI (y ++ [j]), [], rfl, rfl, sqI hpa', SqT.of hz0, _, rfl, ?_⟩
      have b1 : decide (ksI (y ++ [j]) = []) = false := decide_eq_false (by simp)
      rw [b1]
      refine iteF ⟨_, rfl, st, _, _, rfl, SqT.of h1', rfl, root, u, pa, y ++ [j], rfl, hpa', ap3, ?_⟩
      obtain ⟨a, mm, xn, yk, rr, rfl, hau, alt⟩ := hf_kind hu3
      refine ⟨_, rfl, rfl, _, rfl, iteF ⟨st, _, _, rfl, SqT.of h1', rfl, _, rfl, Go, _, rfl, DGet.t wk1.gd (pkv hpa'), _, rfl, ?_⟩⟩
      have b2 : (valV kg (pk (y ++ [j]))).isSome = false := by
        cases e : (valV kg (pk (y ++ [j]))).isSome with
        | false => rfl
        | true => exact absurd ((kgm _).mp e) no
      rw [b2]
      refine iteF ⟨st, _, _, rfl, SqT.of h1', rfl, _, rfl, _, rfl, pa, _, rfl, hpa', fun pb H4 s4 hpb => ?_⟩
      rw [cut_last, List.dropLast_concat] at hpb
      have wk4 := wk1.keep s4
      have h14 := s4 _ _ h1'
      have hpa4 := s4 _ _ hpa'
      have hau4 := s4 _ _ hau
      have hu4 := hu3.keep s4.tk
      have wput : wo = "put" ↔ ch (y ++ [j]) = 0 := by
        constructor
        · intro e
          by_cases c0 : ch (y ++ [j]) = 0
          · exact c0
          · exfalso
            have w2 := wok.2 c0
            by_cases z' : ∃ k, (y ++ [j]).dropLast ++ [k] ∈ g
            · have := w2.1 z'
              rw [e] at this
              exact absurd this (by decide)
            · have := w2.2 z'
              rw [e] at this
              exact absurd this (by decide)
        · exact wok.1
      have hvl := hv_len (ch := ch) (g := g)
      have ynot : y ∉ g := fun mm' => no ((lg.mem mm').2.2 j (Vp.app.mp vk).2)
      have pkne : pk y ≠ pk (y ++ [j]) := fun z' => by
        have := congrArg List.length (pk_inj z')
        simp at this
      -- behind the tests
      dsimp only [gName]
      refine seq_nx (fun σ' H' => σ' = [some root, some (.ref l), some (.ref Hv), some (.ref Co), some (.ref Go), some (.int (wd ch g)), some (.ref st), some (.ref a), some (.ref pb), v9] ∧ H' = H4) (fun σ' H' hh => ?_) (fun N hN2 => ?_)
      rotate_left
      · rcases alt with ⟨rfl, c0⟩ | ⟨rfl, c0⟩
        · have wp := wput.mpr c0
          subst wp
          exact ⟨st, _, _, rfl, SqT.of h14, rfl, rfl, _, rfl, iteT ⟨a, _, _, rfl, SqT.of hau4, rfl, rfl, _, rfl, iteF (hN2 _ _ ⟨rfl, rfl⟩)⟩⟩
        · have bp : decide (V.str wo = V.str "put") = false := decide_eq_false fun e => c0 (wput.mp (by injection e))
          refine ⟨st, _, _, rfl, SqT.of h14, rfl, rfl, _, rfl, ?_⟩
          rw [bp]
          exact iteF (hN2 _ _ ⟨rfl, rfl⟩)
      obtain ⟨rfl, rfl⟩ := hh
      refine seq_nx (fun σ' H' => σ' = [some root, some (.ref l), some (.ref Hv), some (.ref Co), some (.ref Go), some (.int (wd ch g)), some (.ref st), some (.ref a), some (.ref pb), v9] ∧ Wk H H' Hv Co Go (if ch (y ++ [j]) = 0 then hv ch g else dropK (hv ch g) (pk (y ++ [j]))) kc kg g ha kh ∧
        H' st = some (.tup [.str wo, .ref pa]) ∧ H' pa = some (.tup (pth (y ++ [j]))) ∧ H' pb = some (.tup (pth y))) (fun σ' H5 hh => ?_) (fun N hN2 => ?_)
      rotate_left
      · rcases alt with ⟨rfl, c0⟩ | ⟨rfl, c0⟩
        · have wp := wput.mpr c0
          subst wp
          exact ⟨st, _, _, rfl, SqT.of h14, rfl, rfl, _, rfl, iteF (hN2 _ _ ⟨rfl, by rw [if_pos c0]; exact wk4, h14, hpa4, hpb⟩)⟩
        · have bp : decide (V.str wo = V.str "put") = false := decide_eq_false fun e => c0 (wput.mp (by injection e))
          refine ⟨st, _, _, rfl, SqT.of h14, rfl, rfl, _, rfl, ?_⟩
          rw [bp]
          refine iteT ?_
          -- the recipe is whole
          cases m with
          | zero => exact hu4.elim
          | succ m =>
            rcases hu4.2 with ⟨_, _, _, e, he, _⟩ | ⟨a', m', q', x', us, e, he, hq', ul1, ul2, ucl, _⟩
            · cases e
              rw [hau4] at he
              cases he
            · cases e
              rw [hau4] at he
              cases he
              have ucl : ch (y ++ [j] ++ []) = us.length := ucl
              rw [List.append_nil] at ucl
              have cks := (cnt_kids (q := y ++ [j]) lg).mpr kd
              have ckl := cnt_le_ch (q := y ++ [j]) lg
              refine ⟨a, _, _, rfl, SqT.of hau4, rfl, rfl, _, rfl, iteF ⟨_, rfl, Co, rfl, .inr ⟨_, .inl wk4.c⟩, st, _, _, rfl, SqT.of h14, rfl, fun z3 nz3 => ?_⟩⟩
              have sz3 := Same.upd (o := .dK []) nz3
              have wk5 := wk4.keep sz3
              have h15 := sz3 _ _ h14
              have hpa5 := sz3 _ _ hpa4
              have hpb5 := sz3 _ _ hpb
              have hau5 := sz3 _ _ hau4
              have hq5 := sz3 _ _ hq'
              generalize upd H' z3 (.dK []) = H5 at wk5 h15 hpa5 hpb5 hau5 hq5 ⊢
              obtain ⟨a1, a2, a3, a4, a5⟩ := wk5.cn.som (y ++ [j]) (by omega)
              refine ⟨_, DGet.t wk5.c (pkv hpa5), ?_⟩
              rw [a1]
              refine .inr ⟨ha (y ++ [j]), _, rfl, .inl a2, a, _, _, rfl, SqT.of hau5, rfl, q', _, rfl, .inr (SqT.of hq5), rfl, _, rfl, ?_⟩
              have b3 : (!decide (V.int (((kh (y ++ [j])).length : Nat) : Int) = V.int ((us.length : Nat) : Int))) = false := by
                rw [a4]
                have : cnt g (y ++ [j]) = us.length := by omega
                rw [this]
                simp
              rw [b3]
              refine iteF ⟨st, _, _, rfl, SqT.of h15, rfl, (by show 2 ≤ sizeLine; decide), fun z4 nz4 => ?_⟩
              have sz4 := Same.upd (o := .tup [.str "keep", .str "join"]) nz4
              have wk6 := wk5.keep sz4
              have h16 := sz4 _ _ h15
              have hpa6 := sz4 _ _ hpa5
              have hpb6 := sz4 _ _ hpb5
              have hz4 : upd H5 z4 (.tup [.str "keep", .str "join"]) z4 = some (.tup [.str "keep", .str "join"]) := upd_same
              generalize upd H5 z4 (.tup [.str "keep", .str "join"]) = H6 at wk6 h16 hpa6 hpb6 hz4 ⊢
              have w2 := wok.2 c0
              rw [List.dropLast_concat] at w2
              have hvy : valV (hv ch g) (pk (y ++ [j])) = some (.bl true) := by rw [hv_at rfl lg, if_pos ⟨⟨0, kd 0 (by omega)⟩, no⟩]
              have words : ∃ bb : Bool, wo = (if bb = true then "join" else "keep") ∧ (valV (hv ch g) (pk y)).isSome = bb := by
                by_cases z' : ∃ k, y ++ [k] ∈ g
                · exact ⟨true, w2.1 z', by rw [hv_at rfl lg y, if_pos ⟨z', ynot⟩]; rfl⟩
                · exact ⟨false, w2.2 z', by rw [hv_at rfl lg y, if_neg (fun w => z' w.1)]; rfl⟩
              obtain ⟨bb, ew, ein⟩ := words
              refine ⟨z4, _, rfl, .inr (SqT.of hz4), rfl, rfl, _, rfl, ?_⟩
              have b4 : (if true = true then !inV (.str wo) [V.str "keep", V.str "join"] else inV (.str wo) [V.str "keep", V.str "join"]) = false := by
                rw [ew]
                cases bb <;> decide
              rw [b4]
              refine iteF ⟨st, _, _, rfl, SqT.of h16, rfl, rfl, _, rfl, _, rfl, Hv, _, rfl, DGet.t wk6.v (pkv hpb6), rfl, _, rfl, ?_⟩
              rw [ein]
              have b5 : (!decide (V.bl (decide (V.str wo = V.str "join")) = V.bl bb)) = false := by
                rw [ew]
                cases bb <;> decide
              rw [b5]
              refine iteF ⟨_, rfl, Hv, rfl, .inr ⟨_, .inl wk6.v⟩, st, _, _, rfl, SqT.of h16, rfl, _, pk (y ++ [j]), pa, .bl true, wk6.v, rfl, pkv hpa6, hvy, ?_⟩
              refine hN2 _ _ ⟨rfl, ?_, tk_dT wk6.v _ _ h16, tk_dT wk6.v _ _ hpa6, tk_dT wk6.v _ _ hpb6⟩
              rw [if_neg c0]
              exact wk6.setv V0 vc.symm vg.symm
      obtain ⟨rfl, wk5, e1, e2, e3⟩ := hh
      have kvl : (if ch (y ++ [j]) = 0 then hv ch g else dropK (hv ch g) (pk (y ++ [j]))).length ≤ 100 := by
        split
        · omega
        · have := dropK_le (hv ch g) (pk (y ++ [j]))
          omega
      refine ⟨_, rfl, _, rfl, Hv, _, rfl, DPut.t wk5.v (pkv e3) (small1000 (by omega)), ?_⟩
      have eh : putK (if ch (y ++ [j]) = 0 then hv ch g else dropK (hv ch g) (pk (y ++ [j]))) (pk y) (.bl true) = hv ch (g ++ [y ++ [j]]) := by
        rw [hv_snoc]
        unfold hvS
        rw [List.dropLast_concat]
      rw [eh]
      have wk6 := wk5.setv (k := hv ch (g ++ [y ++ [j]])) V0 vc.symm vg.symm
      have tk6 := tk_dT (o := .dT (hv ch (g ++ [y ++ [j]]))) wk5.v
      replace e1 := tk6 _ _ e1
      replace e2 := tk6 _ _ e2
      replace e3 := tk6 _ _ e3
      generalize upd H5 Hv (.dT (hv ch (g ++ [y ++ [j]]))) = H6 at wk6 e1 e2 e3 ⊢
      clear tk6
      have kcl := wk6.cn.len
      dsimp only
      refine seq_nx (fun σ' H8 => ∃ (h : Addr) (kh0 : List (Key × V)) (kc' : List (List Key × V)), σ' = [some root, some (.ref l), some (.ref Hv), some (.ref Co), some (.ref Go), some (.int (wd ch g)), some (.ref st), some (.ref a), some (.ref pb), some (.ref h)] ∧ H8 h = some (.dK kh0) ∧
        Wk H (upd H8 h (.dK (putK kh0 (Sum.inl (j : Int)) (.bl true)))) Hv Co Go (hv ch (g ++ [y ++ [j]])) kc' kg (g ++ [y ++ [j]]) (fun q => if q = y then h else ha q) (fun q => if q = y then putK kh0 (Sum.inl (j : Int)) (.bl true) else kh q) ∧ kh0.length ≤ 100 ∧ H8 st = some (.tup [.str wo, .ref pa]) ∧ H8 pa = some (.tup (pth (y ++ [j])))) (fun σ' H8 hh => ?_) (fun N hN2 => ?_)
      rotate_left
      · refine ⟨_, rfl, Co, rfl, .inr ⟨_, .inl wk6.c⟩, _, rfl, fun z2 nz2 => ?_⟩
        have sz2 := Same.upd (o := .dK []) nz2
        have hz2 : upd H6 z2 (.dK []) z2 = some (.dK []) := upd_same
        have wk7 := wk6.keep sz2
        replace e1 := sz2 _ _ e1
        replace e2 := sz2 _ _ e2
        replace e3 := sz2 _ _ e3
        have nz0 : H z2 = none := wk6.sm.free nz2
        have znew : ∀ q, 1 ≤ cnt g q → ha q ≠ z2 := fun q hq z' => by
          have := (wk6.cn.som q hq).2.1
          rw [z', nz2] at this
          cases this
        generalize upd H6 z2 (.dK []) = H7 at hz2 wk7 e1 e2 e3 ⊢
        refine ⟨kc, pk y, pb, wk7.c, rfl, pkv e3, small1000 (by omega), fun v hv' => ?_, fun hv' => ?_⟩
        · by_cases cz : cnt g y = 0
          · rw [wk7.cn.zero y cz] at hv'
            cases hv'
          · obtain ⟨a1, a2, a3, a4, a5⟩ := wk7.cn.som y (by omega)
            rw [a1] at hv'
            cases hv'
            refine hN2 _ _ ⟨ha y, kh y, kc, rfl, a2, ?_, by have := cnt_le (g := g) (q := y); omega, e1, e2⟩
            exact Wk.held wk7.sm wk7.v wk7.c wk7.gd (by omega) a2 a3 (fun q h0 _ => wk7.cn.zero q h0) (fun q h1 _ => wk7.cn.som q h1) wk7.cn.inj (fun q h1 hq e => hq (wk7.cn.inj q y h1 (by omega) e)) a1 a4 a5 no
        · have cz : cnt g y = 0 := by
            by_cases cz : cnt g y = 0
            · exact cz
            · have := (wk7.cn.som y (by omega)).1
              rw [this] at hv'
              cases hv'
          have hcZ : z2 ≠ Co := ne_ob hz2 wk7.c (by simp)
          have kl2 := length_putK kc (pk y) (.ref z2)
          have kD : ∀ {b k}, H7 b = some (.dK k) → upd H7 Co (.dT (putK kc (pk y) (.ref z2))) b = some (.dK k) := fun {b k} e => dk_up wk7.c e
          refine hN2 _ _ ⟨z2, [], putK kc (pk y) (.ref z2), rfl, kD hz2, ?_, Nat.zero_le _, tk_dT wk7.c _ _ e1, tk_dT wk7.c _ _ e2⟩
          refine Wk.held (sm_own wk7.sm C0) (by rw [upd_ne vc]; exact wk7.v) upd_same (by rw [upd_ne cg.symm]; exact wk7.gd) (by omega) (kD hz2) nz0 (fun q h0 hq => ?_) (fun q h1 hq => ?_) wk7.cn.inj (fun q h1 _ => znew q h1) (by rw [valV_put, if_pos rfl]) (by rw [cz]; rfl) (fun i' => ?_) no
          · rw [valV_put, if_neg (fun z' => hq (pk_inj z'))]
            exact wk7.cn.zero q h0
          · obtain ⟨a1, a2, a3, a4, a5⟩ := wk7.cn.som q h1
            exact ⟨by rw [valV_put, if_neg (fun z' => hq (pk_inj z'))]; exact a1, kD a2, a3, a4, a5⟩
          · constructor
            · intro h
              cases h
            · intro h
              exact absurd h (cnt_zero cz i')
      obtain ⟨h, kh0, kc', rfl, hh, wk8, kl, e1, e2⟩ := hh
      have atl : atI (pth (y ++ [j])) (-1) = some (.int (j : Int)) := by
        rw [pth_snoc]
        exact atI_last _ _
      refine ⟨_, rfl, st, _, _, rfl, SqT.of e1, rfl, _, rfl, pa, _, -1, .int (j : Int), rfl, rfl, SqT.of e2, atl, h, _, rfl, DPut.k (k := Sum.inl (j : Int)) hh (small1000 (by omega)), ?_⟩
      have tk9 := tk_dK (o := .dK (putK kh0 (Sum.inl (j : Int)) (.bl true))) hh
      replace e1 := tk9 _ _ e1
      replace e2 := tk9 _ _ e2
      generalize upd H8 h (.dK (putK kh0 (Sum.inl (j : Int)) (.bl true))) = H9 at wk8 e1 e2 ⊢
      clear tk9
      refine ⟨_, rfl, st, _, _, rfl, SqT.of e1, rfl, Go, _, rfl, DPut.t wk8.gd (pkv e2) (small1000 (by omega)), ?_⟩
      have wkA := wk8.setg (k := putK kg (pk (y ++ [j])) (.bl true)) G0 cg vg
      refine ⟨_, rfl, _, rfl, .inl ⟨Hv, _, rfl, .inl wkA.v, _, _, rfl, ?_⟩⟩
      have ewd : (if ((hv ch (g ++ [y ++ [j]])).length : Int) > wd ch g then ((hv ch (g ++ [y ++ [j]])).length : Int) else wd ch g) = wd ch (g ++ [y ++ [j]]) := by
        rw [wd_snoc]
        split <;> omega
      rw [ewd]
      refine hN _ _ ⟨kc', putK kg (pk (y ++ [j])) (.bl true), _, _, _, _, _, _, by rw [et]; rfl, by rw [et]; exact wkA, fun q => ?_, ?_⟩
      · rw [et, valV_put]
        by_cases e : q = y ++ [j]
        · rw [e, if_pos rfl]
          simp
        · rw [if_neg (fun z' => e (pk_inj z')), kgm q, List.mem_append, List.mem_singleton]
          exact ⟨.inl, fun h => h.elim id fun h => absurd h e⟩
      · have := length_putK kg (pk (y ++ [j])) (.bl true)
        omega
    · intro σ H2 hh
      obtain ⟨kc, kg, ha, kh, v6, v7, v8, v9, rfl, wk, kgm, kgl⟩ := hh
      have e : ((ss.map (·.2)).map (·.2)).take ((ss.map fun s => V.ref s.1).length) = (ss.map (·.2)).map (·.2) := List.take_of_length_le (by simp)
      rw [e] at wk ⊢
      have lg := ok.lg
      have hall : ∀ k, k < ch [] → [] ++ [k] ∈ (ss.map (·.2)).map (·.2) := fun k hk => (ok.mem _).mpr ⟨Vp.app.mpr ⟨trivial, hk⟩, by simp⟩
      have cks := (cnt_kids (q := []) lg).mpr hall
      have ckl := cnt_le_ch (q := []) lg
      refine ⟨_, rfl, Co, rfl, .inr ⟨_, .inl wk.c⟩, (by show 0 ≤ sizeLine; decide), fun z nz => ?_⟩
      have sz1 := Same.upd (o := .tup []) nz
      have hz : upd H2 z (.tup []) z = some (.tup (pth [])) := upd_same
      have wk1 := wk.keep sz1
      generalize upd H2 z (.tup []) = H3 at hz wk1 ⊢
      refine fun z3 nz3 => ?_
      have sz3 := Same.upd (o := .dK []) nz3
      have wk2 := wk1.keep sz3
      have hz3 := sz3 _ _ hz
      generalize upd H3 z3 (.dK []) = H4 at hz3 wk2 ⊢
      obtain ⟨a1, a2, a3, a4, a5⟩ := wk2.cn.som [] (by omega)
      refine ⟨_, DGet.t wk2.c (pkv hz3), ?_⟩
      rw [a1]
      rcases (hf.keep wk2.sm.tk).2 with ⟨_, _, _, _, _, c0, _⟩ | ⟨pp, m, q, x, us, rfl, hp, hq, ul1, ul2, ucl, _⟩
      · omega
      refine .inr ⟨ha [], _, rfl, .inl a2, pp, _, _, rfl, SqT.of hp, rfl, q, _, rfl, .inr (SqT.of hq), rfl, _, rfl, ?_⟩
      have b3 : (!decide (V.int (((kh []).length : Nat) : Int) = V.int ((us.length : Nat) : Int))) = false := by
        rw [a4]
        have : cnt ((ss.map (·.2)).map (·.2)) [] = us.length := by omega
        rw [this]
        simp
      rw [b3]
      exact iteF ⟨_, rfl, k _ wk2.sm⟩
end
end K43

namespace K43
open PySem PySem.Spec PyProof.Rows L2 GM TM TR
def spLaw (K : PySem.W.Frag) (Tb : Addr) : Sp := fun vs H Q _ => ∃ (a : Addr) (ns : List Int), vs = [.ref a] ∧ SqL K H a (ns.map V.int) ∧ ns.length ≤ 63 ∧ H Tb = some (.tbl #[]) ∧ ∀ H', Q (.bl true) H'
abbrev dStep (x : Str × List Nat) : Dt := .t [.s x.1, .t ((ksI x.2).map Dt.i)]
theorem SV.dv {K : PySem.W.Frag} {H : Hp} {s : Addr} {x : Str × List Nat} (h : SV H s x) : Dv K H 2 (.ref s) (dStep x) := by
  obtain ⟨pa, h1, h2⟩ := h
  refine .t (SqZ.of h1) rfl fun j v d hv hd => ?_
  match j, hv, hd with
  | 0, hv, hd =>
    cases hv
    cases hd
    exact .s
  | 1, hv, hd =>
    cases hv
    cases hd
    refine .t (SqZ.of h2) (by rw [List.length_map, List.length_map, List.length_map]) fun i v d hv hd => ?_
    rw [pth, List.getElem?_map] at hv
    rw [List.getElem?_map, List.getElem?_map] at hd
    cases e : x.2[i]? with
    | none => rw [e] at hv; cases hv
    | some k =>
      rw [e] at hv hd
      cases hv
      cases hd
      exact .i
  | j + 2, hv, hd => cases hv
section
variable {P : Program} {w : World} {K : PySem.W.Frag} {mg : Str → Option Value} {base : Heap}
theorem scLaw : FnScope ["_law_script", "_law_wares_here", "_law_root_here", "_law_found", "_law_kept", "_law_width", "_law_told"] ["_law_script"] (defScope sLaw) := ⟨rfl, rfl, rfl, by decide +kernel, rfl, by decide +kernel, by decide +kernel⟩
theorem ok_law {Tb : Addr} {f : Addr} {fd : FuncData} (F : Fun K "law" "law" sLaw f fd) (T : Txt mg) (cC : Cal P w K mg base CX0 200 "_law_cell_at" ["_law_script", "_law_k"] (spCell K)) (cWa : Cal P w K mg base CX0 200 "_law_wares" ["_law_cell"] spWares)
    (cCt : Cal P w K mg base CX0 200 "_law_counts" ["_law_script", "_law_start", "_law_last"] (spCounts K)) (cR : Cal P w K mg base CX0 200 "_law_root" ["_law_script", "_law_wares_here", "_law_counts_here"] (spRoot K))
    (cS : Cal P w K mg base CX0 200 "steps_of" ["tree"] (spStepsOf Tb 62)) (cK : Cal P w K mg base CX0 200 "_law_walk" ["_law_root_here", "_law_listed"] spWalk) (cL : Cal P w K mg base CX0 200 "_law_need" ["_law_part"] (spNeedOf 62))
    (cD : Cal P w K mg base CX0 200 "width_of" ["tree", "steps"] spWidth) (cW : Cal P w K mg base CX0 200 "_law_whole" ["_law_found"] spWhole) : FnOk P w K mg base CX0 201 f fd ["_law_script"] (spLaw K Tb) := by
  refine F.ok scLaw (fun vs H Q E h => ?_) (fun cdv A outer s H vs Q E hr h => ?_)
  · obtain ⟨_, _, rfl, _⟩ := h
    rfl
  · obtain ⟨a, ns, rfl, ha, l63, hT, k⟩ := h
    refine ⟨_, (pss_cons (ps_set (i := 1) scLaw.nd rfl (Or.inl rfl) (pe_cal cWa hr rfl pass0 (pa_cons (pe_cal cC hr rfl pass0 (pa_cons (pv 0) (pa_cons pe_int pa_nil))) pa_nil)))
      (pss_cons (ps_set (i := 2) scLaw.nd rfl (Or.inl rfl) (pe_cal cR hr rfl pass0 (pa_cons (pv 0) (pa_cons (pv 1) (pa_cons (pe_cal cCt hr rfl pass0 (pa_cons (pv 0) (pa_cons pe_int (pa_cons pe_int pa_nil)))) pa_nil)))))
      (pss_cons (ps_set (i := 3) scLaw.nd rfl (Or.inl rfl) (pe_cal cS hr rfl pass0 (pa_cons (pv 2) pa_nil)))
      (pss_cons (ps_if (pt_not (pt_val (pe_callB call_isi rfl T.isi boot_isinstance (pa_cons (pv 3) (pa_cons (pe_bltn (v := .ty "list") rfl T.list' bt_list rfl) pa_nil)))))
        (pss_one (ps_ret pe_bl))
        pss_nil)
      (pss_cons (ps_set (i := 4) scLaw.nd rfl (Or.inl rfl) (pe_callTy call_list_of rfl T.list' bt_list (pa_cons (pv 3) pa_nil)))
      (pss_cons (ps_set (i := 5) scLaw.nd rfl (Or.inl rfl) (pe_cal cK hr rfl pass0 (pa_cons (pv 2) (pa_cons (pv 4) pa_nil))))
      (pss_cons (ps_if (PW.pt (pw_or (pt_cmpR op_isN (pv 5) pe_non (nomark _)) (pw_or1 (pt_cmpR op_ne (pv 5) (pe_cal cL hr rfl pass0 (pa_cons (pv 2) pa_nil)) (nomark _)))))
        (pss_one (ps_ret pe_bl))
        pss_nil)
      (pss_cons (ps_set (i := 6) scLaw.nd rfl (Or.inl rfl) (pe_cal cD hr rfl pass0 (pa_cons (pv 2) (pa_cons (pv 3) pa_nil))))
      (pss_cons (ps_if (PW.pt (pw_or (pt_not (pt_val (pe_cal cW hr rfl pass0 (pa_cons (pv 6) pa_nil)))) (pw_or (pt_cmpR op_ne (pv 6) (pv 5) (nomark _)) (pw_or1 (pt_cmpR (op_neL hr.units) (pv 3) (pv 4) (nomark _))))))
        (pss_one (ps_ret pe_bl))
        pss_nil)
      (pss_cons (ps_expr (pe_bm0 PySem.F.plainAttrs_list PySem.F.slot_list_clear PySem.F.type_list_clear mt_clear (pv 3)))
      (pss_one (ps_ret (pe_cmpR (op_eqL hr.units) (pe_cal cS hr rfl pass0 (pa_cons (pv 2) pa_nil)) (pv 4) (nomark _)))))))))))))), ?_⟩
    refine ⟨_, rfl, a, ns, 0, rfl, ha, by decide, fun c0 => ⟨c0, rfl, fun wr ws H1 w6 _ _ s1 nw hw => ?_⟩⟩
    refine ⟨_, rfl, _, rfl, _, rfl, a, ns, rfl, s1.seq ha, fun cs c H2 ct s2 nc hc => ?_⟩
    refine ⟨a, ws, c, ns, wr, cs, rfl, (s1.trans s2).seq ha, s2 _ _ hw, w6, hc, ct, fun root n d H3 s3 tr n100 d1 => ?_⟩
    have sm3 : Same H H3 := (s1.trans s2).trans s3
    have lt3 : LT H3 Tb := .inl (sm3 _ _ hT)
    obtain ⟨ch, nd, hf, end0, epn⟩ := tr.hf
    have tt := hf.hd.tt
    have wh : Wh ch nd := ⟨tt, by omega⟩
    have c1 : 1 ≤ ch [] := by
      by_cases z : ch [] = 0
      · have := tt.zero [] trivial z
        omega
      · omega
    refine ⟨_, rfl, root, ch, nd, rfl, hf, c1, wh, lt3, fun ss Fo H4 sb4 lt4 nF hF sv pl => ?_⟩
    obtain ⟨ok, ewd⟩ := pl_root tt pl c1
    have tk4 := sB_tk sb4 lt3
    have hf4 := hf.keep tk4
    have len := lg_len tt ok.lg
    rw [List.length_map, List.length_map] at len
    refine ⟨_, rfl, _, "list", true, rfl, .lst_list (SqL.of hF), _, rfl, iteF ?_⟩
    refine ⟨_, rfl, Fo, _, rfl, .inl (SqL.of hF), fun Kp nK => ?_⟩
    have sK := Same.upd (o := .lst (ss.map fun s => .ref s.1)) nK
    have hK : upd H4 Kp (.lst (ss.map fun s => .ref s.1)) Kp = some (.lst (ss.map fun s => .ref s.1)) := upd_same
    generalize upd H4 Kp (.lst (ss.map fun s => .ref s.1)) = H5 at sK hK ⊢
    have KF : Kp ≠ Fo := fun z => by rw [z, hF] at nK; cases nK
    refine ⟨_, rfl, _, rfl, root, Kp, ch, nd, ss, rfl, hf4.keep sK.tk, c1, wh, hK, fun s hs => (sv s hs).keep sK.tk, ok, fun H6 s6 => ?_⟩
    rw [ewd, end0]
    have s46 := sK.trans s6
    have eq1 : (!decide (V.int d = V.int d)) = false := by simp
    refine ⟨_, rfl, rfl, _, rfl, iteF ⟨_, rfl, _, rfl, root, n, d, rfl, tr.keep (tk4.trans s46.tk), fun H7 s7 => ⟨rfl, _, rfl, ?_⟩⟩⟩
    rw [eq1]
    refine iteF ?_
    have s47 := s46.trans s7
    have wsp : ∀ s ∈ ss, s.2.1 = "put" ↔ ch s.2.2 = 0 := fun s hs => by
      obtain ⟨i, hi⟩ := List.getElem?_of_mem hs
      have il : i < (ss.map (·.2)).length := by rw [List.length_map]; exact (List.getElem?_eq_some_iff.mp hi).1
      have e1 : (ss.map (·.2))[i]? = some s.2 := by rw [List.getElem?_map, hi]; rfl
      have sp : ss.map (·.2) = (ss.map (·.2)).take i ++ (s.2.1, s.2.2) :: (ss.map (·.2)).drop (i + 1) := by
        conv => lhs; rw [← List.take_append_drop i (ss.map (·.2))]
        rw [List.drop_eq_getElem_cons il]
        congr 2
        rw [List.getElem?_eq_getElem il] at e1
        exact Option.some.inj e1
      have wok := ok.wo _ _ _ _ sp
      constructor
      · intro e
        by_cases c0 : ch s.2.2 = 0
        · exact c0
        · exfalso
          have w2 := wok.2 c0
          by_cases z' : ∃ k, s.2.2.dropLast ++ [k] ∈ ((ss.map (·.2)).take i).map (·.2)
          · have := w2.1 z'
            rw [e] at this
            exact absurd this (by decide)
          · have := w2.2 z'
            rw [e] at this
            exact absurd this (by decide)
      · exact wok.1
    have emm : (ss.map fun s => (s.1, s.2.2)).map (·.2) = (ss.map (·.2)).map (·.2) := by rw [List.map_map, List.map_map]; rfl
    have emr : (ss.map fun s => (s.1, s.2.2)).map (fun s => V.ref s.1) = ss.map fun s => V.ref s.1 := by rw [List.map_map]; rfl
    refine ⟨_, rfl, _, rfl, root, Fo, ch, ss.map fun s => (s.1, s.2.2), rfl, by rw [emr]; exact s47 _ _ hF, fun s hs => ?_, by rw [emm]; exact ok.lg, by rw [List.length_map]; omega, fun H8 s8 => ?_⟩
    · obtain ⟨s', hs', rfl⟩ := List.mem_map.mp hs
      obtain ⟨pa, h1, h2⟩ := (sv s' hs').keep s47.tk
      exact ⟨s'.2.1, pa, h1, h2, wsp s' hs'⟩
    rw [emm, ewd, end0]
    have s48 := s47.trans s8
    have hF8 := s48 _ _ hF
    have hK8 := (s6.trans (s7.trans s8)) _ _ hK
    refine ⟨_, rfl, d, rfl, _, rfl, iteF ⟨_, rfl, _, rfl, rfl, _, rfl, ?_⟩⟩
    rw [eq1]
    refine iteF ⟨_, rfl, _, rfl, Fo, Kp, _, _, (fun _ => true), rfl, rfl, SqL.of hF8, SqL.of hK8, fun j x y hx hy => ?_, _, rfl, ?_⟩
    · rw [hx] at hy
      cases hy
      rw [List.getElem?_map] at hx
      obtain ⟨s, _, rfl⟩ := Option.map_eq_some_iff.mp hx
      exact .same
    have eq2 : (!((List.range (min (ss.map fun s => V.ref s.1).length (ss.map fun s => V.ref s.1).length)).all (fun _ => true) && (ss.map fun s => V.ref s.1).length == (ss.map fun s => V.ref s.1).length)) = false := by simp
    rw [eq2]
    refine iteF ⟨_, rfl, .inl ⟨rfl, _, SqL.of hF8⟩, Fo, _, rfl, rfl, hF8, ?_⟩
    have tk9 : Tk H8 (upd H8 Fo (.lst [])) := Tk.lst hF8
    have lt9 : LT (upd H8 Fo (.lst [])) Tb := lt_up (H1 := H8) (LamT.keep lt4 s48) hF8
    have hK9 : upd H8 Fo (.lst []) Kp = some (.lst (ss.map fun s => V.ref s.1)) := by rw [upd_ne KF]; exact hK8
    have sv9 : ∀ s ∈ ss, SV (upd H8 Fo (.lst [])) s.1 s.2 := fun s hs => ((sv s hs).keep s48.tk).keep tk9
    have hf9 := hf4.keep (s48.tk.trans tk9)
    generalize upd H8 Fo (.lst []) = H9 at tk9 lt9 hK9 sv9 hf9 ⊢
    refine ⟨_, rfl, root, ch, nd, rfl, hf9, c1, wh, lt9, fun ss2 Fo2 Ha sba lta nF2 hF2 sv2 pl2 => ?_⟩
    have eqs := Pl.uniq pl2 pl
    have hKa := sba _ _ (lst_ne lt9 hK9) hK9
    have tka := sB_tk sba lt9
    have l2 : ss2.length = ss.length := by have := congrArg List.length eqs; simpa using this
    refine ⟨_, rfl, Fo2, Kp, _, _, (fun _ => true), rfl, rfl, SqL.of hF2, SqL.of hKa, fun j x y hx hy => ?_, ?_⟩
    · rw [List.getElem?_map] at hx hy
      obtain ⟨s2', h2', rfl⟩ := Option.map_eq_some_iff.mp hx
      obtain ⟨s1', h1', rfl⟩ := Option.map_eq_some_iff.mp hy
      have e : s2'.2 = s1'.2 := by
        have z1 : (ss2.map (·.2))[j]? = some s2'.2 := by rw [List.getElem?_map, h2']; rfl
        have z2 : (ss.map (·.2))[j]? = some s1'.2 := by rw [List.getElem?_map, h1']; rfl
        rw [eqs, z2] at z1
        exact (Option.some.inj z1).symm
      have d2 : Dv K Ha 40 (.ref s2'.1) (dStep s2'.2) := ((sv2 s2' (List.mem_of_getElem? h2')).dv).mono (by decide)
      have d1' : Dv K Ha 40 (.ref s1'.1) (dStep s2'.2) := e ▸ (((sv9 s1' (List.mem_of_getElem? h1')).keep tka).dv).mono (by decide)
      exact d2.eq d1'
    · have eq3 : ((List.range (min (ss2.map fun s => V.ref s.1).length (ss.map fun s => V.ref s.1).length)).all (fun _ => true) && (ss2.map fun s => V.ref s.1).length == (ss.map fun s => V.ref s.1).length) = true := by
        rw [List.length_map, List.length_map, l2]
        simp
      rw [eq3]
      exact k _
end
end K43

namespace K43
open PySem PySem.Spec PyProof.Rows L2 GM TM TR
/-- a def of the top, by its name -/
structure Dn (K : PySem.W.Frag) (x : Str) (st : Stmt) (ps : List Str) : Prop where
  ex : ∃ (f : Addr) (fd : FuncData), PySem.W.nsIn K mainGlobals x = some (some (.ref f)) ∧ Fun K x x st f fd ∧ Binds K fd ps []
theorem Dn.mk' {K : PySem.W.Frag} {x : Str} {st : Stmt} {ps : List Str} {f : Addr} {oc : Value} {od an : Option Addr} {osl : Array (Option Value)} {kV doc pm cdv ct : Value} (a : PySem.W.nsIn K mainGlobals x = some (some (.ref f)))
    (l : K.lookup f = some ⟨oc, od, .func (PySem.W.fnOf x x (defArgs st) (defBody st) (defScope st) .none kV doc pm an cdv ct), osl⟩) (c : PySem.W.codeIn K cdv x = true) (k : PySem.W.keepIn K (.ref f) = true)
    (hb : ∀ (kV doc pm : Value) (an : Option Addr) (cdv ct : Value) (us : List Value), us.length = ps.length → bindArgs (PySem.W.fnOf x x (defArgs st) (defBody st) (defScope st) .none kV doc pm an cdv ct) ⟨us, []⟩ = pure (ps.zip us)) : Dn K x st ps :=
  ⟨f, _, a, fun_mk (st := st) l c k, (fun_mk (st := st) l c k).binds hb⟩
theorem Dn.cal {P : Program} {w : World} {K : PySem.W.Frag} {mg : Str → Option Value} {base h : Heap} {CX : CXT} {k : Nat} {x : Str} {st : Stmt} {ps : List Str} {sp : Sp} (D : Dn K x st ps) (X : K.In h) (G : h.Ns mainGlobals mg)
    (ok : ∀ {f : Addr} {fd : FuncData}, Fun K x x st f fd → FnOk P w K mg base CX k f fd ps sp) : Cal P w K mg base CX k x ps sp := by
  obtain ⟨f, fd, a, F, b⟩ := D.ex
  exact ⟨f, fd, PySem.W.mg_of X G a, F.kp, b, ok F⟩

/-- the def that makes a lambda, its code at c, its table at T -/
structure DnC (K : PySem.W.Frag) (x : Str) (st : Stmt) (ps : List Str) (c T : Addr) : Prop where
  ex : ∃ (f : Addr) (fd : FuncData), PySem.W.nsIn K mainGlobals x = some (some (.ref f)) ∧ FunC K x x st f fd c ∧ Binds K fd ps []
  tab : PySem.W.tabIn K x = some (c, T)
theorem DnC.mk' {K : PySem.W.Frag} {x : Str} {st : Stmt} {ps : List Str} {f c T : Addr} {oc oc' : Value} {od an od' : Option Addr} {osl osl' : Array (Option Value)} {kV doc pm ct : Value} {vs : Array Value} (a : PySem.W.nsIn K mainGlobals x = some (some (.ref f)))
    (l : K.lookup f = some ⟨oc, od, .func (PySem.W.fnOf x x (defArgs st) (defBody st) (defScope st) .none kV doc pm an (.ref c) ct), osl⟩) (hc : PySem.W.codeIn K (.ref c) x = true) (k : PySem.W.keepIn K (.ref f) = true)
    (lc : K.lookup c = some ⟨oc', od', .fields vs, osl'⟩) (hv : vs[11]? = some (.ref T))
    (hb : ∀ (kV doc pm : Value) (an : Option Addr) (cdv ct : Value) (us : List Value), us.length = ps.length → bindArgs (PySem.W.fnOf x x (defArgs st) (defBody st) (defScope st) .none kV doc pm an cdv ct) ⟨us, []⟩ = pure (ps.zip us)) : DnC K x st ps c T := by
  refine ⟨⟨f, _, a, ⟨⟨oc, od, kV, doc, pm, an, ct, osl, rfl, l, hc⟩, k⟩, (fun_mk (st := st) l hc k).binds hb⟩, ?_⟩
  unfold PySem.W.tabIn
  rw [a]
  dsimp only
  rw [l]
  dsimp only [PySem.W.fnOf]
  rw [lc]
  dsimp only
  rw [hv]
theorem DnC.cal {P : Program} {w : World} {K : PySem.W.Frag} {mg : Str → Option Value} {base h : Heap} {CX : CXT} {k : Nat} {x : Str} {st : Stmt} {ps : List Str} {sp : Sp} {c T : Addr} (D : DnC K x st ps c T) (X : K.In h) (G : h.Ns mainGlobals mg)
    (ok : ∀ {f : Addr} {fd : FuncData}, FunC K x x st f fd c → FnOk P w K mg base CX k f fd ps sp) : Cal P w K mg base CX k x ps sp := by
  obtain ⟨f, fd, a, F, b⟩ := D.ex
  exact ⟨f, fd, PySem.W.mg_of X G a, F.kp, b, ok F⟩
structure AllD (K : PySem.W.Frag) : Prop where
  dNeedOf : Dn K "need_of" sNeedOf ["tree"]
  dNeeds : Dn K "needs_of_children" sNeeds ["tree"]
  dStepsOf : Dn K "steps_of" sStepsOf ["tree"]
  dWithin : Dn K "steps_within" sWithin ["part", "path"]
  dWidth : Dn K "width_of" sWidth ["tree", "steps"]
  dCell : Dn K "_law_cell_at" sCell ["_law_script", "_law_k"]
  dMixed : Dn K "_law_mixed" sMixed ["_law_cell", "_law_k"]
  dWhole : Dn K "_law_whole" sWhole ["_law_found"]
  dLowest : Dn K "_law_lowest" sLowest ["_law_top", "_law_bottom"]
  dAdd : Dn K "_law_add" sAdd ["_law_one", "_law_other"]
  dDigit : Dn K "_law_digit" sDigit ["_law_left", "_law_many"]
  dNames : Dn K "_law_names" sNames ["_law_left"]
  dWares : Dn K "_law_wares" sWares ["_law_cell"]
  dMuch : Dn K "_law_much" sMuch ["_law_number"]
  dFreeC : Dn K "_law_free_counts" sFreeC ["_law_left", "_law_most"]
  dCounts : Dn K "_law_counts" sCounts ["_law_script", "_law_start", "_law_last"]
  dTotal : Dn K "_law_total" sTotal ["_law_parts"]
  dFreeR : Dn K "_law_free_root" sFreeR ["_law_left", "_law_wares_here", "_law_counts_here"]
  dRoot : Dn K "_law_root" sRoot ["_law_script", "_law_wares_here", "_law_counts_here"]
  dAt : Dn K "_law_at" sAt ["_law_root_here", "_law_path"]
  dNeed : Dn K "_law_need" sNeed ["_law_part"]
  dWalk : Dn K "_law_walk" sWalk ["_law_root_here", "_law_listed"]
  z0 : PySem.W.nsIn K mainGlobals "isinstance" = some none
  z1 : PySem.W.nsIn K mainGlobals "int" = some none
  z2 : PySem.W.nsIn K mainGlobals "bool" = some none
  z3 : PySem.W.nsIn K mainGlobals "tuple" = some none
  z4 : PySem.W.nsIn K mainGlobals "len" = some none
  z5 : PySem.W.nsIn K mainGlobals "range" = some none
  z6 : PySem.W.nsIn K mainGlobals "min" = some none
  z7 : PySem.W.nsIn K mainGlobals "max" = some none
  z8 : PySem.W.nsIn K mainGlobals "abs" = some none
  z9 : PySem.W.nsIn K mainGlobals "list" = some none
  z10 : PySem.W.nsIn K mainGlobals "sorted" = some none
  z11 : PySem.W.nsIn K mainGlobals "sum" = some none
  z12 : PySem.W.nsIn K mainGlobals "reversed" = some none
  z13 : PySem.W.nsIn K mainGlobals "enumerate" = some none
theorem AllD.txt {K : PySem.W.Frag} {mg : Str → Option Value} {h : Heap} (A : AllD K) (X : K.In h) (G : h.Ns mainGlobals mg) : Txt mg := ⟨PySem.W.mg_none_of X G A.z0, PySem.W.mg_none_of X G A.z1, PySem.W.mg_none_of X G A.z2, PySem.W.mg_none_of X G A.z3, PySem.W.mg_none_of X G A.z4, PySem.W.mg_none_of X G A.z5, PySem.W.mg_none_of X G A.z6, PySem.W.mg_none_of X G A.z7, PySem.W.mg_none_of X G A.z8, PySem.W.mg_none_of X G A.z9, PySem.W.mg_none_of X G A.z10, PySem.W.mg_none_of X G A.z11, PySem.W.mg_none_of X G A.z12, PySem.W.mg_none_of X G A.z13⟩
theorem law_ok {P : Program} {w : World} {K : PySem.W.Frag} {mg : Str → Option Value} {base h : Heap} {f c Tb : Addr} {fd : FuncData} (X : K.In h) (G : h.Ns mainGlobals mg) (A : AllD K) (C : DnC K "recipes_by_need" sRecs ["children"] c Tb) (B : LamB mg base c Tb) (F : Fun K "law" "law" sLaw f fd) : FnOk P w K mg base CX0 201 f fd ["_law_script"] (spLaw K Tb) := by
  have T : Txt mg := A.txt X G
  have cC : Cal P w K mg base CX0 1 "_law_cell_at" ["_law_script", "_law_k"] (spCell K) := A.dCell.cal X G fun F => ok_cell F T
  have cX : Cal P w K mg base CX0 1 "_law_mixed" ["_law_cell", "_law_k"] spMixed := A.dMixed.cal X G ok_mixed
  have cLo : Cal P w K mg base CX0 1 "_law_lowest" ["_law_top", "_law_bottom"] spLowest := A.dLowest.cal X G ok_lowest
  have cAd : Cal P w K mg base CX0 2 "_law_add" ["_law_one", "_law_other"] spAdd := A.dAdd.cal X G fun F => ok_add F cLo
  have cDi : Cal P w K mg base CX0 1 "_law_digit" ["_law_left", "_law_many"] spDigit := A.dDigit.cal X G ok_digit
  have cNa : Cal P w K mg base CX0 2 "_law_names" ["_law_left"] spNames := A.dNames.cal X G fun F => ok_names F T cDi
  have cWa : Cal P w K mg base CX0 3 "_law_wares" ["_law_cell"] spWares := A.dWares.cal X G fun F => ok_wares F T cNa (cX.mono (by decide))
  have cMu : Cal P w K mg base CX0 2 "_law_much" ["_law_number"] spMuch := A.dMuch.cal X G fun F => ok_much F cLo
  have cFc : Cal P w K mg base CX0 2 "_law_free_counts" ["_law_left", "_law_most"] spFreeC := A.dFreeC.cal X G fun F => ok_freec F T cDi
  have cCt : Cal P w K mg base CX0 3 "_law_counts" ["_law_script", "_law_start", "_law_last"] (spCounts K) := A.dCounts.cal X G fun F => ok_counts F T (cC.mono (by decide)) (cX.mono (by decide)) cFc
  have cTo : Cal P w K mg base CX0 3 "_law_total" ["_law_parts"] spTotal := A.dTotal.cal X G fun F => ok_total F cAd
  have cFr : Cal P w K mg base CX0 4 "_law_free_root" ["_law_left", "_law_wares_here", "_law_counts_here"] spFreeR := A.dFreeR.cal X G fun F => ok_freer F T (cDi.mono (by decide)) (cLo.mono (by decide)) cTo
  have cRo : Cal P w K mg base CX0 5 "_law_root" ["_law_script", "_law_wares_here", "_law_counts_here"] (spRoot K) := A.dRoot.cal X G fun F => ok_root F T (cC.mono (by decide)) (cX.mono (by decide)) (cMu.mono (by decide)) cFr (cTo.mono (by decide))
  have cN : ∀ n : Nat, Cal P w K mg base CX0 (2 * n + 1) "need_of" ["tree"] (spNeedOf n) := fun n => by
    induction n with
    | zero => exact A.dNeedOf.cal X G fun _ => no_need
    | succ n ih => exact A.dNeedOf.cal X G fun F => ok_needof F T (A.dNeeds.cal X G fun F => ok_needs F ih)
  have cL : ∀ n : Nat, Cal P w K mg base CX0 (n + 1) "_law_need" ["_law_part"] (spNeedOf n) := fun n => by
    induction n with
    | zero => exact A.dNeed.cal X G fun _ => no_needL
    | succ n ih => exact A.dNeed.cal X G fun F => ok_need F T ih
  have cW : Cal P w K mg base CX0 1 "_law_whole" ["_law_found"] spWhole := A.dWhole.cal X G fun F => ok_whole F T
  have cAt : Cal P w K mg base CX0 2 "_law_at" ["_law_root_here", "_law_path"] spAt := A.dAt.cal X G fun F => ok_at F T cW
  have cWi : Cal P w K mg base CX0 1 "width_of" ["tree", "steps"] spWidth := A.dWidth.cal X G fun F => ok_width F T
  have cRe : ∀ n : Nat, Cal P w K mg base CX0 (2 * n + 3) "recipes_by_need" ["children"] (spRecs Tb n) := fun n => C.cal X G fun F => ok_recs (k := 2 * n + 1) F T B (cN n)
  have cSw : ∀ n : Nat, Cal P w K mg base CX0 (2 * n + 4) "steps_within" ["part", "path"] (spWithin Tb n) := fun n => by
    induction n with
    | zero => exact A.dWithin.cal X G fun _ => no_within
    | succ n ih => exact A.dWithin.cal X G fun F => ok_within (k := 2 * n + 5) F T (ih.mono (by omega)) ((cRe n).mono (by omega))
  have cSo : Cal P w K mg base CX0 129 "steps_of" ["tree"] (spStepsOf Tb 62) := A.dStepsOf.cal X G fun F => ok_stepsof F (cSw 62)
  have cKa : Cal P w K mg base CX0 3 "_law_walk" ["_law_root_here", "_law_listed"] spWalk := A.dWalk.cal X G fun F => ok_walk F T cAt
  exact ok_law F T (cC.mono (by decide)) (cWa.mono (by decide)) (cCt.mono (by decide)) (cRo.mono (by decide)) (cSo.mono (by decide)) (cKa.mono (by decide)) ((cL 62).mono (by decide)) (cWi.mono (by decide)) (cW.mono (by decide))
theorem all_mk {l : PySem.W.OpenLaw} {w : World} {K : PySem.W.Frag} {h : Heap} {mg : Str → Option Value} {fa f4 c T : Addr} (X : K.In h) (G : h.Ns mainGlobals mg) (hfa : mg "law" = some (.ref fa)) (A : AllD K) (C : DnC K "recipes_by_need" sRecs ["children"] c T) (nt : PySem.W.noTabs K = true)
    {od4 an4 : Option Addr} {sl4 : Array (Option Value)} {oc4 kV4 dc4 pm4 cd4 ct4 : Value}
    (a4 : PySem.W.nsIn K mainGlobals "law" = some (some (.ref f4))) (l4 : K.lookup f4 = some ⟨oc4, od4, .func (PySem.W.fnOf "law" "law" (defArgs sLaw) (defBody sLaw) (defScope sLaw) .none kV4 dc4 pm4 an4 cd4 ct4), sl4⟩) (c4 : PySem.W.codeIn K cd4 "law" = true) (k4 : PySem.W.keepIn K (.ref f4) = true) :
    ∃ (fd : FuncData) (c T : Addr), PySem.W.tabIn K "recipes_by_need" = some (c, T) ∧ PySem.W.noTabs K = true ∧ (∀ (s : Shared) (v : Value), BindsTo s fd ⟨[v], []⟩ [("_law_script", v)]) ∧ ∀ base : Heap, K.In base → base.Ns mainGlobals mg → LamB mg base c T → FnOk l.prog w K mg base CX0 201 fa fd ["_law_script"] (spLaw K T) := by
  have e := hfa.symm.trans (PySem.W.mg_of X G a4)
  cases e
  exact ⟨PySem.W.fnOf "law" "law" (defArgs sLaw) (defBody sLaw) (defScope sLaw) .none kV4 dc4 pm4 an4 cd4 ct4, c, T, C.tab, nt, fun s v => .of_eq rfl, fun base _ _ B => law_ok X G A C B (fun_mk (st := sLaw) l4 c4 k4)⟩
theorem walk {l : PySem.W.OpenLaw} {q : Program} {loose : List Str} {XP : (Str → Option Value) → Heap → Prop} {YP : World → Heap → Prop} {d d0 : DefRec} {K : Params → PySem.W.Frag} (hn : l.most = some 63) (hdf : d.params.defaults = []) (hrec : (recsOf q).find? (fun e => e.name == ("recipes_by_need" : Str)) = some d0)
    (hY : ∀ (w : World) (h : Heap), YP w h → (K w.params).In h)
    (F : ∀ (w : World) (mg : Str → Option Value) (fa : Addr) (h : Heap), (K w.params).In h → h.Ns mainGlobals mg → mg d.name = some (.ref fa) →
      ∃ (fd : FuncData) (c T : Addr), PySem.W.tabIn (K w.params) "recipes_by_need" = some (c, T) ∧ PySem.W.noTabs (K w.params) = true ∧ (∀ (s : Shared) (u : Value), BindsTo s fd ⟨[u], []⟩ [("_law_script", u)]) ∧
        ∀ base : Heap, (K w.params).In base → base.Ns mainGlobals mg → LamB mg base c T → FnOk l.prog w (K w.params) mg base CX0 201 fa fd ["_law_script"] (spLaw (K w.params) T)) :
    PySem.W.WalkO q loose XP YP l.row.toRowW d [] (fun f vs => PySem.call f vs) :=
  L2.walk_ofT (n := 63) (k := 201) (x := "_law_script") (x0 := "recipes_by_need") (CX := fun _ => CX0) (sp := fun w T => spLaw (K w.params) T) hn (by decide) hdf ⟨rfl, by decide, by decide⟩ hrec hY F (fun _ _ _ a ns hl hT hS => ⟨a, ns, rfl, hS, hl, hT, fun _ => rfl⟩) fun _ _ _ _ _ z => z
end K43
open PySem PySem.W PyProof.Rows
set_option maxRecDepth 100000 in
set_option maxHeartbeats 0 in
theorem PySem.Challenge.cw_phialhouse_k43_steps_narrow_enough_holds : PySem.Challenge.rw_phialhouse_k43_steps_narrow_enough.Holds := by
  w_on; o_law; k_head; (case hw => w_witness2)
  k_fill
  refine K43.walk (l := PySem.Challenge.rw_phialhouse_k43_steps_narrow_enough) rfl rfl rfl (fun w h Y => PySem.W.km_in_of Y) ?F
  case F =>
    intro w mg fa h KX G hmg
    have dNeedOf : K43.Dn (L2.KOf KX) "need_of" K43.sNeedOf ["tree"] := by
      dsimp only [L2.KOf]
      refine' K43.Dn.mk' ?a ?l ?c ?k ?b
      (case a => k_is); (case l => k_is); (case c => k_is); (case k => k_is)
      (case b => exact fun _ _ _ _ _ _ us hl => match us, hl with | [_], _ => rfl)
    have dNeeds : K43.Dn (L2.KOf KX) "needs_of_children" K43.sNeeds ["tree"] := by
      dsimp only [L2.KOf]
      refine' K43.Dn.mk' ?a ?l ?c ?k ?b
      (case a => k_is); (case l => k_is); (case c => k_is); (case k => k_is)
      (case b => exact fun _ _ _ _ _ _ us hl => match us, hl with | [_], _ => rfl)
    have dStepsOf : K43.Dn (L2.KOf KX) "steps_of" K43.sStepsOf ["tree"] := by
      dsimp only [L2.KOf]
      refine' K43.Dn.mk' ?a ?l ?c ?k ?b
      (case a => k_is); (case l => k_is); (case c => k_is); (case k => k_is)
      (case b => exact fun _ _ _ _ _ _ us hl => match us, hl with | [_], _ => rfl)
    have dWithin : K43.Dn (L2.KOf KX) "steps_within" K43.sWithin ["part", "path"] := by
      dsimp only [L2.KOf]
      refine' K43.Dn.mk' ?a ?l ?c ?k ?b
      (case a => k_is); (case l => k_is); (case c => k_is); (case k => k_is)
      (case b => exact fun _ _ _ _ _ _ us hl => match us, hl with | [_, _], _ => rfl)
    have dWidth : K43.Dn (L2.KOf KX) "width_of" K43.sWidth ["tree", "steps"] := by
      dsimp only [L2.KOf]
      refine' K43.Dn.mk' ?a ?l ?c ?k ?b
      (case a => k_is); (case l => k_is); (case c => k_is); (case k => k_is)
      (case b => exact fun _ _ _ _ _ _ us hl => match us, hl with | [_, _], _ => rfl)
    have dCell : K43.Dn (L2.KOf KX) "_law_cell_at" K43.sCell ["_law_script", "_law_k"] := by
      dsimp only [L2.KOf]
      refine' K43.Dn.mk' ?a ?l ?c ?k ?b
      (case a => k_is); (case l => k_is); (case c => k_is); (case k => k_is)
      (case b => exact fun _ _ _ _ _ _ us hl => match us, hl with | [_, _], _ => rfl)
    have dMixed : K43.Dn (L2.KOf KX) "_law_mixed" K43.sMixed ["_law_cell", "_law_k"] := by
      dsimp only [L2.KOf]
      refine' K43.Dn.mk' ?a ?l ?c ?k ?b
      (case a => k_is); (case l => k_is); (case c => k_is); (case k => k_is)
      (case b => exact fun _ _ _ _ _ _ us hl => match us, hl with | [_, _], _ => rfl)
    have dWhole : K43.Dn (L2.KOf KX) "_law_whole" K43.sWhole ["_law_found"] := by
      dsimp only [L2.KOf]
      refine' K43.Dn.mk' ?a ?l ?c ?k ?b
      (case a => k_is); (case l => k_is); (case c => k_is); (case k => k_is)
      (case b => exact fun _ _ _ _ _ _ us hl => match us, hl with | [_], _ => rfl)
    have dLowest : K43.Dn (L2.KOf KX) "_law_lowest" K43.sLowest ["_law_top", "_law_bottom"] := by
      dsimp only [L2.KOf]
      refine' K43.Dn.mk' ?a ?l ?c ?k ?b
      (case a => k_is); (case l => k_is); (case c => k_is); (case k => k_is)
      (case b => exact fun _ _ _ _ _ _ us hl => match us, hl with | [_, _], _ => rfl)
    have dAdd : K43.Dn (L2.KOf KX) "_law_add" K43.sAdd ["_law_one", "_law_other"] := by
      dsimp only [L2.KOf]
      refine' K43.Dn.mk' ?a ?l ?c ?k ?b
      (case a => k_is); (case l => k_is); (case c => k_is); (case k => k_is)
      (case b => exact fun _ _ _ _ _ _ us hl => match us, hl with | [_, _], _ => rfl)
    have dDigit : K43.Dn (L2.KOf KX) "_law_digit" K43.sDigit ["_law_left", "_law_many"] := by
      dsimp only [L2.KOf]
      refine' K43.Dn.mk' ?a ?l ?c ?k ?b
      (case a => k_is); (case l => k_is); (case c => k_is); (case k => k_is)
      (case b => exact fun _ _ _ _ _ _ us hl => match us, hl with | [_, _], _ => rfl)
    have dNames : K43.Dn (L2.KOf KX) "_law_names" K43.sNames ["_law_left"] := by
      dsimp only [L2.KOf]
      refine' K43.Dn.mk' ?a ?l ?c ?k ?b
      (case a => k_is); (case l => k_is); (case c => k_is); (case k => k_is)
      (case b => exact fun _ _ _ _ _ _ us hl => match us, hl with | [_], _ => rfl)
    have dWares : K43.Dn (L2.KOf KX) "_law_wares" K43.sWares ["_law_cell"] := by
      dsimp only [L2.KOf]
      refine' K43.Dn.mk' ?a ?l ?c ?k ?b
      (case a => k_is); (case l => k_is); (case c => k_is); (case k => k_is)
      (case b => exact fun _ _ _ _ _ _ us hl => match us, hl with | [_], _ => rfl)
    have dMuch : K43.Dn (L2.KOf KX) "_law_much" K43.sMuch ["_law_number"] := by
      dsimp only [L2.KOf]
      refine' K43.Dn.mk' ?a ?l ?c ?k ?b
      (case a => k_is); (case l => k_is); (case c => k_is); (case k => k_is)
      (case b => exact fun _ _ _ _ _ _ us hl => match us, hl with | [_], _ => rfl)
    have dFreeC : K43.Dn (L2.KOf KX) "_law_free_counts" K43.sFreeC ["_law_left", "_law_most"] := by
      dsimp only [L2.KOf]
      refine' K43.Dn.mk' ?a ?l ?c ?k ?b
      (case a => k_is); (case l => k_is); (case c => k_is); (case k => k_is)
      (case b => exact fun _ _ _ _ _ _ us hl => match us, hl with | [_, _], _ => rfl)
    have dCounts : K43.Dn (L2.KOf KX) "_law_counts" K43.sCounts ["_law_script", "_law_start", "_law_last"] := by
      dsimp only [L2.KOf]
      refine' K43.Dn.mk' ?a ?l ?c ?k ?b
      (case a => k_is); (case l => k_is); (case c => k_is); (case k => k_is)
      (case b => exact fun _ _ _ _ _ _ us hl => match us, hl with | [_, _, _], _ => rfl)
    have dTotal : K43.Dn (L2.KOf KX) "_law_total" K43.sTotal ["_law_parts"] := by
      dsimp only [L2.KOf]
      refine' K43.Dn.mk' ?a ?l ?c ?k ?b
      (case a => k_is); (case l => k_is); (case c => k_is); (case k => k_is)
      (case b => exact fun _ _ _ _ _ _ us hl => match us, hl with | [_], _ => rfl)
    have dFreeR : K43.Dn (L2.KOf KX) "_law_free_root" K43.sFreeR ["_law_left", "_law_wares_here", "_law_counts_here"] := by
      dsimp only [L2.KOf]
      refine' K43.Dn.mk' ?a ?l ?c ?k ?b
      (case a => k_is); (case l => k_is); (case c => k_is); (case k => k_is)
      (case b => exact fun _ _ _ _ _ _ us hl => match us, hl with | [_, _, _], _ => rfl)
    have dRoot : K43.Dn (L2.KOf KX) "_law_root" K43.sRoot ["_law_script", "_law_wares_here", "_law_counts_here"] := by
      dsimp only [L2.KOf]
      refine' K43.Dn.mk' ?a ?l ?c ?k ?b
      (case a => k_is); (case l => k_is); (case c => k_is); (case k => k_is)
      (case b => exact fun _ _ _ _ _ _ us hl => match us, hl with | [_, _, _], _ => rfl)
    have dAt : K43.Dn (L2.KOf KX) "_law_at" K43.sAt ["_law_root_here", "_law_path"] := by
      dsimp only [L2.KOf]
      refine' K43.Dn.mk' ?a ?l ?c ?k ?b
      (case a => k_is); (case l => k_is); (case c => k_is); (case k => k_is)
      (case b => exact fun _ _ _ _ _ _ us hl => match us, hl with | [_, _], _ => rfl)
    have dNeed : K43.Dn (L2.KOf KX) "_law_need" K43.sNeed ["_law_part"] := by
      dsimp only [L2.KOf]
      refine' K43.Dn.mk' ?a ?l ?c ?k ?b
      (case a => k_is); (case l => k_is); (case c => k_is); (case k => k_is)
      (case b => exact fun _ _ _ _ _ _ us hl => match us, hl with | [_], _ => rfl)
    have dWalk : K43.Dn (L2.KOf KX) "_law_walk" K43.sWalk ["_law_root_here", "_law_listed"] := by
      dsimp only [L2.KOf]
      refine' K43.Dn.mk' ?a ?l ?c ?k ?b
      (case a => k_is); (case l => k_is); (case c => k_is); (case k => k_is)
      (case b => exact fun _ _ _ _ _ _ us hl => match us, hl with | [_, _], _ => rfl)
    have z0 : PySem.W.nsIn (L2.KOf KX) mainGlobals "isinstance" = some none := by
      dsimp only [L2.KOf]
      k_is
    have z1 : PySem.W.nsIn (L2.KOf KX) mainGlobals "int" = some none := by
      dsimp only [L2.KOf]
      k_is
    have z2 : PySem.W.nsIn (L2.KOf KX) mainGlobals "bool" = some none := by
      dsimp only [L2.KOf]
      k_is
    have z3 : PySem.W.nsIn (L2.KOf KX) mainGlobals "tuple" = some none := by
      dsimp only [L2.KOf]
      k_is
    have z4 : PySem.W.nsIn (L2.KOf KX) mainGlobals "len" = some none := by
      dsimp only [L2.KOf]
      k_is
    have z5 : PySem.W.nsIn (L2.KOf KX) mainGlobals "range" = some none := by
      dsimp only [L2.KOf]
      k_is
    have z6 : PySem.W.nsIn (L2.KOf KX) mainGlobals "min" = some none := by
      dsimp only [L2.KOf]
      k_is
    have z7 : PySem.W.nsIn (L2.KOf KX) mainGlobals "max" = some none := by
      dsimp only [L2.KOf]
      k_is
    have z8 : PySem.W.nsIn (L2.KOf KX) mainGlobals "abs" = some none := by
      dsimp only [L2.KOf]
      k_is
    have z9 : PySem.W.nsIn (L2.KOf KX) mainGlobals "list" = some none := by
      dsimp only [L2.KOf]
      k_is
    have z10 : PySem.W.nsIn (L2.KOf KX) mainGlobals "sorted" = some none := by
      dsimp only [L2.KOf]
      k_is
    have z11 : PySem.W.nsIn (L2.KOf KX) mainGlobals "sum" = some none := by
      dsimp only [L2.KOf]
      k_is
    have z12 : PySem.W.nsIn (L2.KOf KX) mainGlobals "reversed" = some none := by
      dsimp only [L2.KOf]
      k_is
    have z13 : PySem.W.nsIn (L2.KOf KX) mainGlobals "enumerate" = some none := by
      dsimp only [L2.KOf]
      k_is
    have nt : PySem.W.noTabs (L2.KOf KX) = true := by
      dsimp only [L2.KOf]
      kernel_rfl
    refine' K43.all_mk KX G hmg ⟨dNeedOf, dNeeds, dStepsOf, dWithin, dWidth, dCell, dMixed, dWhole, dLowest, dAdd, dDigit, dNames, dWares, dMuch, dFreeC, dCounts, dTotal, dFreeR, dRoot, dAt, dNeed, dWalk, z0, z1, z2, z3, z4, z5, z6, z7, z8, z9, z10, z11, z12, z13⟩ (K43.DnC.mk' ?ap ?lp ?cp ?kp ?lc ?hv ?bp) nt ?a4 ?l4 ?c4 ?k4
    (case ap => k_is); (case lp => k_is); (case cp => k_is); (case kp => k_is); (case lc => k_is); (case hv => rfl)
    (case bp => exact fun _ _ _ _ _ _ us hl => match us, hl with | [_], _ => rfl)
    (case a4 => k_is); (case l4 => k_is); (case c4 => k_is); (case k4 => k_is)

