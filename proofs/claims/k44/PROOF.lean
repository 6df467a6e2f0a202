import PyProof.Rows.All
import Wide.All
import OpenK.AllK
import Wide.FinOn
import Lean
import PyProof.EqAt
import PyProof.EqKinds
import PyProof.TupleCall
import PySem.Challenge.RW_phialhouse_k44_whole_none_narrower
set_option Elab.async false
set_option linter.all false
set_option maxRecDepth 100000
set_option maxHeartbeats 4000000
/-! THE HAND LAYER, for ints, bools, texts, own classes, LISTS and tuples (index, slices, in, append, pop ..), calls, loops. Paste it whole ahead of your own text; what your proof does not reach may be deleted. -/
namespace L2
open PySem PySem.Spec PyProof.Rows

/-- a key: an int or a str -/
abbrev Key := Sum Int Str
def keyIs : Key → Value → Bool
  | .inl k, v => Value.isInt k v
  | .inr x, v => Value.isStrOf x v
def keyH (w : World) : Key → Int
  | .inl k => hashInt k
  | .inr x => hashStr w x
theorem keyIs_shape : ∀ {k : Key} {v : Value}, keyIs k v = true → (∃ i t, k = Sum.inl i ∧ v = Value.int i t) ∨ (∃ x t, k = Sum.inr x ∧ v = Value.str x t)
  | .inl i, v, h => by
    obtain ⟨t, e⟩ := Value.isInt_shape (k := i) (v := v) h
    exact .inl ⟨i, t, rfl, e⟩
  | .inr x, v, h => by
    obtain ⟨t, e⟩ := Value.isStrOf_shape (x := x) (v := v) h
    exact .inr ⟨x, t, rfl, e⟩
theorem keyIs_int (i : Int) (t : Tok) : keyIs (.inl i) (.int i t) = true := by simp [keyIs, Value.isInt]
theorem keyIs_str (x : Str) (t : Tok) : keyIs (.inr x) (.str x t) = true := by simp [keyIs, Value.isStrOf]
theorem key_ll (a b : Int) : decide ((Sum.inl a : Key) = Sum.inl b) = (a == b) := by
  by_cases e : a = b
  · subst e; simp
  · have h : ¬ (Sum.inl a : Key) = Sum.inl b := fun q => e (Sum.inl.inj q)
    rw [decide_eq_false h]
    exact (beq_eq_false_iff_ne.mpr e).symm
theorem key_rr (a b : Str) : decide ((Sum.inr a : Key) = Sum.inr b) = decide (a = b) := by
  by_cases e : a = b
  · subst e; simp
  · have h : ¬ (Sum.inr a : Key) = Sum.inr b := fun q => e (Sum.inr.inj q)
    rw [decide_eq_false h, decide_eq_false e]
theorem key_lr (a : Int) (b : Str) : decide ((Sum.inl a : Key) = Sum.inr b) = false := decide_eq_false (fun q => nomatch q)
theorem key_rl (a : Str) (b : Int) : decide ((Sum.inr a : Key) = Sum.inl b) = false := decide_eq_false (fun q => nomatch q)

def mixKind (prog : Program) (w : World) : PySem.KeyKind prog w Key where
  is := keyIs
  hash := keyH w
  inj := fun v a b ha hb => by
    rcases keyIs_shape ha with ⟨i, t, rfl, rfl⟩ | ⟨x, t, rfl, rfl⟩
    · rcases keyIs_shape hb with ⟨j, u, rfl, e⟩ | ⟨y, u, rfl, e⟩
      · injection e with e1 _; rw [e1]
      · exact nomatch e
    · rcases keyIs_shape hb with ⟨j, u, rfl, e⟩ | ⟨y, u, rfl, e⟩
      · exact nomatch e
      · injection e with e1 _; rw [e1]
  byValue := fun k v h => by
    rcases keyIs_shape h with ⟨i, t, rfl, rfl⟩ | ⟨x, t, rfl, rfl⟩ <;> rfl
  pyHash := fun hv h => by
    rcases keyIs_shape hv with ⟨i, t, rfl, rfl⟩ | ⟨x, t, rfl, rfl⟩
    · exact wpAny_pyHash_int h
    · exact wpAny_pyHash_str h
  eqBool := fun hu hv h => by
    rcases keyIs_shape hu with ⟨i, t, rfl, rfl⟩ | ⟨x, t, rfl, rfl⟩
    · rcases keyIs_shape hv with ⟨j, u, rfl, rfl⟩ | ⟨y, u, rfl, rfl⟩
      · rw [key_ll] at h; exact wpAny_eqBool_int h
      · rw [key_lr] at h; exact SeqAt.EqAt.int_str i t y u _ _ _ _ h
    · rcases keyIs_shape hv with ⟨j, u, rfl, rfl⟩ | ⟨y, u, rfl, rfl⟩
      · rw [key_rl] at h; exact SeqAt.EqAt.str_int x t j u _ _ _ _ h
      · rw [key_rr] at h; exact wpAny_eqBool_str h
  «strs» := fun k x t v h => by
    rcases keyIs_shape h with ⟨i, u, rfl, e⟩ | ⟨y, u, rfl, e⟩
    · exact nomatch e
    · injection e with e1 _
      subst e1
      cases v <;> rfl

theorem mixKind_int (prog : Program) (w : World) (i : Int) (t : Tok) : (mixKind prog w).is (.inl i) (.int i t) = true := keyIs_int i t
theorem mixKind_str (prog : Program) (w : World) (x : Str) (t : Tok) : (mixKind prog w).is (.inr x) (.str x t) = true := keyIs_str x t
end L2

namespace L2
open PySem PySem.Spec PyProof.Rows

/-- a value, without the heap -/
inductive V where
  | non | bl (b : Bool) | int (i : Int) | str (x : Str) | byt (b : Array UInt8) | flt (b : UInt64) | ref (a : Addr) | ty (n : String)
  deriving DecidableEq

def RelV : V → Value → Prop
  | .non, u => u = Value.none
  | .bl b, u => u = Value.bool b
  | .int i, u => ∃ t, u = Value.int i t
  | .str x, u => ∃ t, u = Value.str x t
  | .byt b, u => ∃ t, u = Value.bytes b t
  | .flt b, u => ∃ t, u = Value.float b t
  | .ref a, u => u = Value.ref a
  | .ty n, u => u = Value.type n

abbrev Vals : List V → List Value → Prop := Paired RelV
theorem Vals.length {xs : List V} {us : List Value} (r : Vals xs us) : xs.length = us.length := Paired.length r
theorem Vals.get : ∀ {xs : List V} {us : List Value} {i : Nat} {x : V}, Vals xs us → xs[i]? = some x → ∃ u, us[i]? = some u ∧ RelV x u
  | _, _, _, _, .nil, e => by simp at e
  | _, _, 0, _, .cons r _, e => by simp at e; subst e; exact ⟨_, rfl, r⟩
  | _, _, i + 1, x, .cons _ t, e => by
    obtain ⟨u, h1, h2⟩ := Vals.get (i := i) (x := x) t (by simpa using e)
    exact ⟨u, by simpa using h1, h2⟩
theorem Vals.set {x : V} {u : Value} (r : RelV x u) : ∀ {xs : List V} {us : List Value} (i : Nat), Vals xs us → Vals (xs.set i x) (us.set i u)
  | _, _, _, .nil => .nil
  | _, _, 0, .cons _ t => .cons r t
  | _, _, i + 1, .cons q t => .cons q (Vals.set r i t)
theorem Vals.append : ∀ {xs ys : List V} {us ws : List Value}, Vals xs us → Vals ys ws → Vals (xs ++ ys) (us ++ ws)
  | _, _, _, _, .nil, s => s
  | _, _, _, _, .cons r t, s => .cons r (Vals.append t s)
theorem Vals.take : ∀ {xs : List V} {us : List Value} (n : Nat), Vals xs us → Vals (xs.take n) (us.take n)
  | _, _, 0, _ => .nil
  | _, _, _ + 1, .nil => .nil
  | _, _, n + 1, .cons r t => .cons r (Vals.take n t)
theorem Vals.drop : ∀ {xs : List V} {us : List Value} (n : Nat), Vals xs us → Vals (xs.drop n) (us.drop n)
  | _, _, 0, r => r
  | _, _, _ + 1, .nil => .nil
  | _, _, n + 1, .cons _ t => Vals.drop n t
def RelO : Option V → Option Value → Prop
  | some v, some u => RelV v u
  | none, none => True
  | _, _ => False
def KV {κ : Type} : List (κ × V) → List (κ × Value) → Prop := Paired fun (p : κ × V) (q : κ × Value) => p.1 = q.1 ∧ RelV p.2 q.2

/-- a key of a dict (00_mix): an int or a text -/
def kV : Key → V
  | .inl i => .int i
  | .inr x => .str x

/-- what stands at a tracked address -/
inductive HO where
  /-- a list -/
  | lst (xs : List V)
  /-- a tuple (never changes) -/
  | tup (xs : List V)
  /-- a dict whose keys are ints and texts; one whose keys are tuples of ints and texts (the empty one is both) -/
  | dK (kvs : List (Key × V)) | dT (kvs : List (List Key × V))
  /-- a set of ints: its members, its size -/
  | set (S : Int → Bool) (n : Nat)
  /-- an instance of the class at C, its dict at dx, its attributes -/
  | ins (C dx : Addr) (fs : List (Str × V))
  /-- the dict of the instance at x -/
  | own (x : Addr)
  /-- the dict of an exception -/
  | xd (fs : List (Str × V))
  /-- a bound method, f of x -/
  | met (f x : Addr)
  /-- a range object lo, lo + 1, .. below hi -/
  | rng (lo hi : Int)
  /-- a thing that is known to the object (the script; a dict while a loop walks it): read, never written while it is so -/
  | frz (o : Obj) (u : HO)
  /-- a code object's table -/
  | tbl (ps : Array Value)
  /-- any other thing, by what is true of its one object (a def of one's own: SetO a S n := HO.ext fun h => ..) -/
  | ext (φ : Heap → Prop)

abbrev Hp := Addr → Option HO
def upd (H : Hp) (a : Addr) (o : HO) : Hp := fun b => if b = a then some o else H b
theorem upd_same {H : Hp} {a : Addr} {o : HO} : upd H a o a = some o := by unfold upd; rw [if_pos rfl]
theorem upd_ne {H : Hp} {a b : Addr} {o : HO} (h : b ≠ a) : upd H a o b = H b := by unfold upd; rw [if_neg h]
/-- two objects of different content stand apart -/
theorem ne_of {H : Hp} {a b : Addr} {o u : HO} (h : H a = some o) (h' : H b = some u) (d : o ≠ u) : a ≠ b := by
  intro e; subst e; rw [h] at h'; exact d (Option.some.inj h')
theorem ne_of_none {H : Hp} {a b : Addr} {o : HO} (h : H a = some o) (h' : H b = none) : a ≠ b := by
  intro e; subst e; rw [h] at h'; cases h'

section
variable (P : Program) (w : World)
def ObjOk (H : Hp) (h : Heap) (a : Addr) : HO → Prop
  | .lst xs => xs.length ≤ sizeLine ∧ ∃ (its : List Value) (n : Nat), Vals xs its ∧ h.get? a = some { cls := .type "list", data := .seq its.toArray n }
  | .tup xs => xs.length ≤ sizeLine ∧ ∃ its : List Value, Vals xs its ∧ IsTup h a its.toArray
  | .dK kvs => kvs.length ≤ sizeLine ∧ (a == sysModules) = false ∧ ∃ vs, KV kvs vs ∧ h.DictOf (mixKind P w) a vs
  | .dT kvs => kvs.length ≤ sizeLine ∧ (a == sysModules) = false ∧ ∃ xs : List (List Key × Addr × Value),
      Paired (fun (p : List Key × V) (q : List Key × Addr × Value) => p.1 = q.1 ∧ H q.2.1 = some (.tup (p.1.map kV)) ∧ RelV p.2 q.2.2) kvs xs ∧
      ∃ o es ep, h.get? a = some o ∧ o.ExactDict ∧ o.data = .dict es ep ∧ es.toList = xs.map (entryOfKey (tupleKind (mixKind P w))) ∧ (xs.map (·.1)).Nodup
  | .set S n => h.SetOf (intKind P w) a S n
  | .ins C dx fs => H dx = some (.own a) ∧ fs.length ≤ 1000 ∧ dx ≠ a ∧ h.get? a = some (PySem.W.instObj C dx) ∧
      ∃ mA, h.Ns1 dx mA ∧ (∀ f, RelO (fs.lookup f) (mA f)) ∧ PySem.Within mA (fs.map (·.1))
  | .own _ => ∃ o, h.get? a = some o
  | .xd fs => ∃ mA, h.Ns1 a mA ∧ ∀ f, RelO (fs.lookup f) (mA f)
  | .rng lo hi => ∃ t u v, h.get? a = some { cls := .type "range", data := .fields #[.int lo t, .int hi u, .int 1 v] }
  | .frz o u => h.get? a = some o ∧ ObjOk H h a u
  | .tbl ps => h.get? a = some { cls := .none, data := .fields ps }
  | .met f x => h.get? a = some (PySem.W.methodObj (.ref f) (.ref x))
  | .ext φ => φ h ∧ (∃ o, h.get? a = some o) ∧ ∀ h1 h2 : Heap, φ h1 → (∀ o, h1.get? a = some o → h2.get? a = some o) → φ h2
/-- the abstract heap is held -/
def HOk (H : Hp) (h : Heap) : Prop := ∀ a o, H a = some o → ObjOk P w H h a o
end

section
variable {P : Program} {w : World} {H H' : Hp} {h h' : Heap} {a : Addr} {o : HO}
theorem ObjOk.lt (x : ObjOk P w H h a o) : a < h.objs.size := by
  cases o with
  | lst xs => obtain ⟨_, _, _, _, e⟩ := x; exact Heap.lt_size e
  | tup xs => obtain ⟨_, _, _, p⟩ := x; exact p.lt
  | dK kvs => obtain ⟨_, _, _, _, o, _, _, e, _⟩ := x; exact Heap.lt_size e
  | dT kvs => obtain ⟨_, _, _, _, o, _, _, e, _⟩ := x; exact Heap.lt_size e
  | set S n => obtain ⟨o, _, _, _, e, _⟩ := x; exact Heap.lt_size e
  | ins C dx fs => obtain ⟨_, _, _, e, _⟩ := x; exact Heap.lt_size e
  | own y => obtain ⟨_, e⟩ := x; exact Heap.lt_size e
  | xd fs => obtain ⟨_, ⟨_, _, _, e, _⟩, _⟩ := x; exact Heap.lt_size e
  | rng lo hi => obtain ⟨_, _, _, e⟩ := x; exact Heap.lt_size e
  | frz ob u => obtain ⟨e, _⟩ := x; exact Heap.lt_size e
  | tbl ps => exact Heap.lt_size (show h.get? a = some _ from x)
  | met f y => exact Heap.lt_size (show h.get? a = some _ from x)
  | ext φ => obtain ⟨_, ⟨_, e⟩, _⟩ := x; exact Heap.lt_size e
theorem Paired.mapP {α β : Type} {F G : α → β → Prop} : ∀ {l₁ : List α} {l₂ : List β}, Paired F l₁ l₂ → (∀ a b, F a b → G a b) → Paired G l₁ l₂
  | _, _, .nil, _ => .nil
  | _, _, .cons r t, f => .cons (f _ _ r) (Paired.mapP t f)
/-- what an object's description leans on: its own object, its own dict, the tuples -/
theorem ObjOk.stay (x : ObjOk P w H h a o) (k : ∀ b u, (b = a ∨ H b = some (.own a)) → h.get? b = some u → h'.get? b = some u)
    (ho : ∀ b, H b = some (.own a) → H' b = some (.own a)) (ht : ∀ b xs, H b = some (.tup xs) → H' b = some (.tup xs)) : ObjOk P w H' h' a o := by
  induction o with
  | lst xs => obtain ⟨z, its, n, r, e⟩ := x; exact ⟨z, its, n, r, k _ _ (.inl rfl) e⟩
  | tup xs => obtain ⟨z, its, r, ob, e, c⟩ := x; exact ⟨z, its, r, ob, k _ _ (.inl rfl) e, c⟩
  | dK kvs => obtain ⟨z, y, vs, r, ob, es, ep, e, c⟩ := x; exact ⟨z, y, vs, r, ob, es, ep, k _ _ (.inl rfl) e, c⟩
  | dT kvs =>
    obtain ⟨z, y, xs, r, ob, es, ep, e, c⟩ := x
    exact ⟨z, y, xs, Paired.mapP r fun p q z => ⟨z.1, ht _ _ z.2.1, z.2.2⟩, ob, es, ep, k _ _ (.inl rfl) e, c⟩
  | set S n => obtain ⟨ob, es, ep, t, e, c⟩ := x; exact ⟨ob, es, ep, t, k _ _ (.inl rfl) e, c⟩
  | ins C dx fs =>
    obtain ⟨d, z, ne, e, mA, ⟨od, es, ep, e2, c⟩, r⟩ := x
    exact ⟨ho _ d, z, ne, k _ _ (.inl rfl) e, mA, ⟨od, es, ep, k _ _ (.inr d) e2, c⟩, r⟩
  | own y => obtain ⟨ob, e⟩ := x; exact ⟨ob, k _ _ (.inl rfl) e⟩
  | xd fs => obtain ⟨mA, ⟨od, es, ep, e, c⟩, r⟩ := x; exact ⟨mA, ⟨od, es, ep, k _ _ (.inl rfl) e, c⟩, r⟩
  | rng lo hi => obtain ⟨t, u, v, e⟩ := x; exact ⟨t, u, v, k _ _ (.inl rfl) e⟩
  | frz ob u ih => obtain ⟨e, q⟩ := x; exact ⟨k _ _ (.inl rfl) e, ih q⟩
  | tbl ps =>
    have e : h.get? a = some { cls := .none, data := .fields ps } := x
    show h'.get? a = some { cls := .none, data := .fields ps }
    exact k a _ (.inl rfl) e
  | met f y =>
    have e : h.get? a = some (PySem.W.methodObj (.ref f) (.ref y)) := x
    show h'.get? a = some (PySem.W.methodObj (.ref f) (.ref y))
    exact k a _ (.inl rfl) e
  | ext φ => obtain ⟨p, ⟨o, e⟩, st⟩ := x; exact ⟨st _ _ p fun o q => k _ _ (.inl rfl) q, ⟨o, k _ _ (.inl rfl) e⟩, st⟩
theorem HOk.lt (x : HOk P w H h) (e : H a = some o) : a < h.objs.size := (x a o e).lt
theorem HOk.fresh (x : HOk P w H h) (e : h.objs.size ≤ a) : H a = none := by
  cases q : H a with
  | none => rfl
  | some u => exact absurd (Nat.lt_of_lt_of_le (x.lt q) e) (Nat.lt_irrefl _)
/-- every object of the heap is kept -/
theorem HOk.kept (x : HOk P w H h) (k : ∀ b u, h.get? b = some u → h'.get? b = some u) : HOk P w H h' := fun a o e =>
  (x a o e).stay (fun b u _ q => k b u q) (fun _ q => q) fun _ _ q => q
/-- a new object is laid and tracked -/
theorem HOk.laid (x : HOk P w H h) (k : ∀ b u, h.get? b = some u → h'.get? b = some u) (hp : h.objs.size ≤ a) (new : ObjOk P w (upd H a o) h' a o) : HOk P w (upd H a o) h' := fun b u e => by
  have hn := x.fresh hp
  by_cases hb : b = a
  · subst hb; rw [upd_same] at e; cases e; exact new
  · rw [upd_ne hb] at e
    exact (x b u e).stay (fun c v _ q => k c v q) (fun c q => by rw [upd_ne (ne_of_none q hn)]; exact q) fun c xs q => by rw [upd_ne (ne_of_none q hn)]; exact q
end

/-- what may be read as u: it is u, or a known u -/
def Rd (H : Hp) (a : Addr) (u : HO) : Prop := H a = some u ∨ ∃ o, H a = some (.frz o u)
theorem Rd.ok {P : Program} {w : World} {H : Hp} {h : Heap} {a : Addr} {u : HO} (r : Rd H a u) (x : HOk P w H h) : ObjOk P w H h a u := by
  rcases r with r | ⟨o, r⟩
  · exact x a u r
  · obtain ⟨_, q⟩ := x a _ r
    exact q
/-- what may be written -/
def Mut : Option HO → Prop
  | some (.lst _) => True
  | some (.dK _) => True
  | some (.dT _) => True
  | some (.set _ _) => True
  | some (.ins _ _ _) => True
  | some (.ext _) => True
  | _ => False
section
variable {P : Program} {w : World} {H : Hp} {h h' : Heap} {x e : Addr} {o' : HO}
/-- the object at e is changed: x itself, or the dict of the instance x -/
theorem HOk.write (ok : HOk P w H h) (mu : Mut (H x)) (he : e = x ∨ H e = some (.own x)) (k : ∀ b u, b ≠ e → h.get? b = some u → h'.get? b = some u) (heo : ∃ u, h'.get? e = some u)
    (new : ObjOk P w (upd H x o') h' x o') : HOk P w (upd H x o') h' := fun b u q => by
  have nown : ∀ c y, H c = some (.own y) → c ≠ x := fun c y r z => by subst z; rw [r] at mu; exact mu
  have ntup : ∀ c xs, H c = some (.tup xs) → c ≠ x := fun c xs r z => by subst z; rw [r] at mu; exact mu
  by_cases hb : b = x
  · subst hb; rw [upd_same] at q; cases q; exact new
  · rw [upd_ne hb] at q
    by_cases hbe : b = e
    · have q' : H b = some (.own x) := by
        rcases he with z | z
        · exact absurd (hbe.trans z) hb
        · rw [hbe]; exact z
      rw [q] at q'; cases q'
      obtain ⟨v, hv⟩ := heo
      exact ⟨v, by rw [hbe]; exact hv⟩
    · refine (ok b u q).stay (fun c v hc r => k c v ?_ r) (fun c r => by rw [upd_ne (nown c b r)]; exact r) fun c xs r => by rw [upd_ne (ntup c xs r)]; exact r
      rcases hc with rfl | hc
      · exact hbe
      · rintro rfl
        rcases he with z | z
        · exact nown c b hc z
        · rw [hc] at z; cases z; exact hb rfl
end

/-! ### kept unless tracked; of the frames at fs (the callers') the slots may change (an exception that passes writes there); of the records at ex (iterators) nothing is said -/
structure Un (fs ex : List Addr) (H H' : Hp) (h h' : Heap) : Prop where
  keep : ∀ b o, h.get? b = some o → H b = none → b ∉ fs → b ∉ ex → h'.get? b = some o
  slot : ∀ b o, h.get? b = some o → H b = none → b ∈ fs → b ∉ ex → ∃ sl, h'.get? b = some { o with slots := sl }
  free : ∀ b o, h.get? b = some o → H b = none → b ∉ ex → H' b = none
  there : ∀ b o, h.get? b = some o → b ∉ ex → ∃ o', h'.get? b = some o'
  tups : ∀ b xs, H b = some (.tup xs) → H' b = some (.tup xs)
  frzs : ∀ b o u, H b = some (.frz o u) → H' b = some (.frz o u)
  tbls : ∀ b ps, H b = some (.tbl ps) → ∃ more, H' b = some (.tbl (ps ++ more))
section
variable {fs fs' ex ex' : List Addr} {H H1 H2 : Hp} {h h1 h2 h' : Heap} {a x e : Addr} {o : HO}
theorem Un.any (u : Un fs ex H H1 h h1) {b : Addr} {ob : Obj} (q : h.get? b = some ob) (n : H b = none) (hx : b ∉ ex) : ∃ sl, h1.get? b = some { ob with slots := sl } := by
  by_cases hb : b ∈ fs
  · exact u.slot b ob q n hb hx
  · exact ⟨ob.slots, u.keep b ob q n hb hx⟩
theorem Un.kept (k : ∀ b u, h.get? b = some u → h'.get? b = some u) : Un fs ex H H h h' :=
  ⟨fun b ob q _ _ _ => k b ob q, fun b ob q _ _ _ => ⟨ob.slots, k b ob q⟩, fun _ _ _ n _ => n, fun b ob q _ => ⟨ob, k b ob q⟩, fun _ _ q => q, fun _ _ _ q => q, fun _ ps q => ⟨#[], by rw [q]; simp⟩⟩
theorem Un.refl : Un fs ex H H h h := Un.kept fun _ _ q => q
theorem Un.laid (k : ∀ b u, h.get? b = some u → h'.get? b = some u) (hp : h.objs.size ≤ a) (hn : H a = none) : Un fs ex H (upd H a o) h h' where
  keep := fun b u q _ _ _ => k b u q
  slot := fun b u q _ _ _ => ⟨u.slots, k b u q⟩
  free := fun b u q n _ => by rw [upd_ne (Nat.ne_of_lt (Nat.lt_of_lt_of_le (Heap.lt_size q) hp))]; exact n
  there := fun b u q _ => ⟨u, k b u q⟩
  tups := fun b xs q => by rw [upd_ne (ne_of_none q hn)]; exact q
  frzs := fun b u xs q => by rw [upd_ne (ne_of_none q hn)]; exact q
  tbls := fun b ps q => ⟨#[], by rw [upd_ne (ne_of_none q hn), q]; simp⟩
theorem Un.write (mu : Mut (H x)) (he : e = x ∨ H e = some (.own x)) (k : ∀ b u, b ≠ e → h.get? b = some u → h'.get? b = some u) (heo : ∃ u, h'.get? e = some u) : Un fs ex H (upd H x o) h h' := by
  have hx : ∀ b, H b = none → b ≠ x := fun b n z => by subst z; rw [n] at mu; exact mu
  have hb : ∀ b, H b = none → b ≠ e := fun b n z => by
    subst z
    rcases he with r | r
    · exact hx b n r
    · rw [n] at r; cases r
  have hm : ∀ b u, H b = some u → ¬ Mut (some u) → b ≠ x := fun b u q nm z => by subst z; rw [q] at mu; exact nm mu
  refine ⟨fun b u q n _ _ => k b u (hb b n) q, fun b u q n _ _ => ⟨u.slots, k b u (hb b n) q⟩, fun b u q n _ => by rw [upd_ne (hx b n)]; exact n, fun b u q _ => ?_,
    fun b xs q => by rw [upd_ne (hm b _ q fun z => z)]; exact q, fun b u xs q => by rw [upd_ne (hm b _ q fun z => z)]; exact q, fun b ps q => ⟨#[], by rw [upd_ne (hm b _ q fun z => z), q]; simp⟩⟩
  by_cases hbe : b = e
  · subst hbe; exact heo
  · exact ⟨u, k b u hbe q⟩
end

/-! ### the heap without what is tracked -/
def trk (h : Heap) (H : Hp) : List Addr := (List.range h.objs.size).filter fun a => (H a).isSome
def hidT (h : Heap) (H : Hp) : Heap := PySem.W.hideAll h (trk h H)
theorem hidT_size (h : Heap) (H : Hp) : (hidT h H).objs.size = h.objs.size := PySem.W.hideAll_size _ _
theorem hidT_get {h : Heap} {H : Hp} {b : Addr} {o : Obj} (e : h.get? b = some o) (n : H b = none) : (hidT h H).get? b = some o :=
  PySem.W.hideAll_get _ e fun hm => by
    have q : (H b).isSome = true := (List.mem_filter.mp hm).2
    rw [n] at q; simp at q
theorem of_hidT {h : Heap} {H : Hp} {b : Addr} {o : Obj} (e : (hidT h H).get? b = some o) : h.get? b = some o ∧ H b = none := by
  have e' : h.get? b = some o := PySem.W.of_hideAll (trk h H) e
  refine ⟨e', ?_⟩
  cases q : H b with
  | none => rfl
  | some x =>
    have hm : b ∈ trk h H := List.mem_filter.mpr ⟨List.mem_range.mpr (Heap.lt_size e'), by simp [q]⟩
    have z : (hidT h H).get? b = none := PySem.W.hideAll_none (trk h H) hm
    rw [z] at e; cases e

/-! ### OpenK's ledger, filled with every new object but one -/
def allNews (g h : Heap) (L : Addr) : List (Addr × Obj) := (List.range h.objs.size).filterMap fun a => if a = L ∨ (g.get? a).isSome = true then none else (h.get? a).map fun o => (a, o)
def rest (g h : Heap) (L d : Addr) : List (Addr × Obj) := (allNews g h L).filter fun p => decide (p.1 ≠ d)
end L2

namespace L2
open PySem PySem.Spec PyProof.Rows

/-- the module's facts, over the base: the heap at the law's entry without what is tracked there -/
structure Mod (K : PySem.W.Frag) (mg : Str → Option Value) (base : Heap) : Prop where
  kin : K.In base
  glob : base.Ns mainGlobals mg
  blt : ∃ mb, base.Ns builtinsNs mb ∧ ∀ x : Str, x ≠ "__name__" → mb x = bootBuiltins x
  nolimit : base.NoLimit

/-- the context: a def's body (or a comprehension's block) running. base: fixed through the whole law; s₀, H₀: the entry; outer: the frames whose slots others may change (a def's callers); stack: all frames that run;
   ex: iterators that were made ahead of the entry and are walked here (a comprehension's); fn: the names whose cells were made at the entry (a def: all; a comprehension's block: its own); calm: not within an except suite; pn: pins that every state bears; xe: what is wanted of an exception that leaves the code -/
structure Cx where
  prog : Program
  w : World
  K : PySem.W.Frag
  mg : Str → Option Value
  base : Heap
  A : Around
  N : List Str
  s₀ : Shared
  H₀ : Hp
  env : Env
  outer : List Env
  stack : List Env
  ex : List Addr
  fn : Str → Bool
  calm : Bool
  pn : List (Addr × Obj)
  xe : Value → Shared → Prop
/-- the callers' frames -/
def frs (l : List Env) : List Addr := l.filterMap (·.frame)
abbrev Cx.fs (X : Cx) : List Addr := frs X.outer

def Vis (sc : Scope) (x : Str) : Prop := sc.names.lookup x = some .local ∨ sc.names.lookup x = some .cell ∨ sc.names.lookup x = some .free
def Loc (sc : Scope) (x : Str) : Prop := sc.names.lookup x = some .local ∨ sc.names.lookup x = some .cell
def Look (env : Env) (h : Heap) (m : Str → Option Value) (x : Str) (u : Value) : Prop :=
  (env.kindOf x = some .local ∧ m x = some u) ∨ ((env.kindOf x = some .cell ∨ env.kindOf x = some .free) ∧ ∃ c, env.cells.lookup x = some c ∧ h.IsCell c (some u))

structure Cx.Ok (X : Cx) : Prop where
  mod : Mod X.K X.mg X.base
  kind : X.env.scope.kind = .function
  glob : X.env.globals = mainGlobals
  blt : X.env.builtins = builtinsNs
  above : X.s₀.heap.objs.size ≤ X.env.locals
  inj : ∀ x y c, X.env.cells.lookup x = some c → X.env.cells.lookup y = some c → x = y
  has : ∀ x, (X.env.kindOf x = some .cell ∨ X.env.kindOf x = some .free) → ∃ c, X.env.cells.lookup x = some c
  cab : ∀ x c, X.fn x = true → X.env.cells.lookup x = some c → X.s₀.heap.objs.size ≤ c
  hd : X.calm = true → X.A.handled = none
  frames : X.A.frames = some X.stack
  stk : X.stack = X.outer ∨ (X.stack = X.env :: X.outer ∧ X.env.frame = some X.env.locals)
  exf : ∀ b ∈ X.ex, b ≠ X.env.locals ∧ ∀ x c, X.env.cells.lookup x = some c → c ≠ b
  bs : ∀ b o, X.base.get? b = some o → X.s₀.heap.get? b = some o ∧ X.H₀ b = none
  bsz : X.base.objs.size ≤ X.s₀.heap.objs.size
  noex : ∀ b o, X.base.get? b = some o → b ∉ X.ex
  exfs : ∀ b ∈ X.ex, b ∉ X.fs
  funs : X.s₀.heap.FunFrames X.base X.outer
  frf : ∀ b ∈ X.fs, X.H₀ b = none

structure Inv (X : Cx) (pins : List (Addr × Obj)) (σ : List (Option V)) (H : Hp) (s : Shared) : Prop where
  ok : X.Ok
  os : s.os = X.s₀.os
  bare : AllBare s.gens
  base : Un X.fs X.ex X.H₀ H X.s₀.heap s.heap
  loc : ∃ m, s.heap.Ns X.env.locals m ∧ ∀ (i : Nat) (x : Str) (v : V), X.N[i]? = some x → σ[i]? = some (some v) → Vis X.env.scope x → ∃ u, RelV v u ∧ Look X.env s.heap m x u
  cell : ∀ x c, X.env.cells.lookup x = some c → ∃ v, s.heap.IsCell c v
  free : H X.env.locals = none
  freeC : ∀ x c, X.env.cells.lookup x = some c → H c = none
  pin : ∀ p ∈ X.pn ++ pins, s.heap.get? p.1 = some p.2 ∧ H p.1 = none ∧ p.1 ≠ X.env.locals ∧ p.1 ∉ X.fs ∧ ∀ v, p.2.data ≠ .cell v
  hok : HOk X.prog X.w H s.heap
  len : σ.length = X.N.length

section
variable {X : Cx} {pins : List (Addr × Obj)} {σ : List (Option V)} {H H' : Hp} {s : Shared} {h' : Heap}

theorem Cx.Ok.nofr (ok : X.Ok) {b : Addr} {o : Obj} (e : X.base.get? b = some o) : b ∉ X.fs := fun hb => by
  have := (ok.funs.mem hb).1
  rw [e] at this; cases this
theorem Inv.bs (I : Inv X pins σ H s) : ∀ b o, X.base.get? b = some o → s.heap.get? b = some o ∧ H b = none := fun b o e =>
  ⟨I.base.keep b o (I.ok.bs b o e).1 (I.ok.bs b o e).2 (I.ok.nofr e) (I.ok.noex b o e), I.base.free b o (I.ok.bs b o e).1 (I.ok.bs b o e).2 (I.ok.noex b o e)⟩
theorem Inv.bk (I : Inv X pins σ H s) : ∀ b o, X.base.get? b = some o → s.heap.get? b = some o := fun b o e => (I.bs b o e).1
theorem Inv.mod (I : Inv X pins σ H s) : Mod X.K X.mg X.base := I.ok.mod
theorem Inv.kIn (I : Inv X pins σ H s) : X.K.In s.heap := I.ok.mod.kin.keeps I.bk
/-- the frame over the base: for OpenK's rules (K.In X.base is I.mod.kin) -/
theorem Inv.fr (I : Inv X pins σ H s) : ∃ m, Fr X.base X.env.locals s.heap m :=
  let ⟨m, hn, _⟩ := I.loc
  ⟨m, hn, I.bk, Nat.le_trans I.ok.bsz I.ok.above⟩
theorem Inv.lt (I : Inv X pins σ H s) : X.env.locals < s.heap.objs.size := let ⟨_, hn, _⟩ := I.loc; hn.lt
theorem Inv.sz (I : Inv X pins σ H s) : X.s₀.heap.objs.size ≤ s.heap.objs.size := Nat.le_trans I.ok.above (Nat.le_of_lt I.lt)
theorem Inv.nofs (I : Inv X pins σ H s) {a : Addr} (h : s.heap.objs.size ≤ a) : a ∉ X.fs := fun hb => by
  obtain ⟨_, o, ho, _⟩ := I.ok.funs.mem hb
  exact absurd (Nat.lt_of_lt_of_le (Heap.lt_size ho) (Nat.le_trans I.sz h)) (Nat.lt_irrefl _)
theorem Inv.cne (I : Inv X pins σ H s) : ∀ x c, X.env.cells.lookup x = some c → c ≠ X.env.locals := fun x c e z => by
  obtain ⟨v, o, ho, hd⟩ := I.cell x c e
  obtain ⟨m, ⟨o', es, ep, ho', hd', _⟩, _⟩ := I.loc
  rw [z, ho'] at ho; cases ho; rw [hd'] at hd; cases hd
theorem Inv.funs (I : Inv X pins σ H s) : s.heap.FunFrames X.base X.outer := by
  have all : ∀ (l : List Env), (∀ b ∈ frs l, b ∈ X.fs) → X.s₀.heap.FunFrames X.base l → s.heap.FunFrames X.base l := by
    intro l
    induction l with
    | nil => intro _ _; trivial
    | cons env r ih =>
      intro hs hl
      obtain ⟨hk, ⟨L, o, hf, hn, ho, hd⟩, hr⟩ := hl
      have hL : L ∈ X.fs := hs L (by unfold frs; rw [List.filterMap_cons, hf]; exact List.mem_cons_self)
      obtain ⟨sl, e⟩ := I.base.slot L o ho (I.ok.frf L hL) hL fun z => I.ok.exfs L z hL
      exact ⟨hk, ⟨L, _, hf, hn, e, hd⟩, ih (fun b hb => hs b (by unfold frs; rw [List.filterMap_cons, hf]; exact List.mem_cons_of_mem _ hb)) hr⟩
  exact all X.outer (fun _ hb => hb) I.ok.funs

/-- the frames that run, for a call -/
theorem Inv.stack (I : Inv X pins σ H s) : s.heap.FunFrames X.base X.stack := by
  rcases I.ok.stk with e | ⟨e, hf⟩
  · rw [e]; exact I.funs
  · rw [e]
    obtain ⟨m, hn, _⟩ := I.loc
    refine .cons (by rw [I.ok.kind]; decide) hf hn ?_ I.funs
    exact Heap.get?_none_of_le (Nat.le_trans I.ok.bsz I.ok.above)
theorem Inv.stkSub (I : Inv X pins σ H s) : ∀ b ∈ frs X.stack, b ∈ X.env.locals :: X.fs := fun b hb => by
  rcases I.ok.stk with e | ⟨e, hf⟩
  · rw [e] at hb; exact List.mem_cons_of_mem _ hb
  · rw [e] at hb
    unfold frs at hb
    rw [List.filterMap_cons, hf] at hb
    exact hb
theorem Inv.stkFree (I : Inv X pins σ H s) : ∀ b ∈ frs X.stack, H b = none := fun b hb => by
  rcases List.mem_cons.mp (I.stkSub b hb) with e | hb
  · rw [e]; exact I.free
  · obtain ⟨_, o, ho, _⟩ := I.ok.funs.mem hb
    exact I.base.free b o ho (I.ok.frf b hb) fun z => I.ok.exfs b z hb

/-- THE STEP: the untracked objects but the frame and the records at ch are kept (the callers' frames up to slots), the frame's map is kept, the new abstract heap is held -/
theorem Inv.step {g' : Array GenState} {t' : Nat} {d' : Drawn} {ch : List Addr} (I : Inv X pins σ H s)
    (hch : ∀ b ∈ ch, (b ∈ X.ex ∨ X.s₀.heap.objs.size ≤ b) ∧ b ≠ X.env.locals ∧ (∀ x c, X.env.cells.lookup x = some c → c ≠ b) ∧ ∀ p ∈ X.pn ++ pins, p.1 ≠ b)
    (keep : ∀ b o, b ≠ X.env.locals → b ∉ X.fs → b ∉ ch → s.heap.get? b = some o → H b = none → h'.get? b = some o)
    (slot : ∀ b o, b ≠ X.env.locals → b ∈ X.fs → b ∉ ch → s.heap.get? b = some o → H b = none → ∃ sl, h'.get? b = some { o with slots := sl }) (free : ∀ b o, b ∉ ch → s.heap.get? b = some o → H b = none → H' b = none)
    (there : ∀ b o, b ∉ ch → s.heap.get? b = some o → ∃ o', h'.get? b = some o')
    (tups : ∀ b xs, H b = some (.tup xs) → H' b = some (.tup xs)) (frzs : ∀ b o u, H b = some (.frz o u) → H' b = some (.frz o u)) (tbls : ∀ b ps, H b = some (.tbl ps) → ∃ more, H' b = some (.tbl (ps ++ more)))
    (ns : ∀ m, s.heap.Ns X.env.locals m → h'.Ns X.env.locals m) (hok : HOk X.prog X.w H' h') (hg : AllBare g') :
    Inv X pins σ H' { s with heap := h', gens := g', drawn := d', toks := t' } := by
  have neL : ∀ b o, X.s₀.heap.get? b = some o → b ≠ X.env.locals := fun b o e => Nat.ne_of_lt (Nat.lt_of_lt_of_le (Heap.lt_size e) I.ok.above)
  have neC : ∀ b o, X.s₀.heap.get? b = some o → b ∉ X.ex → b ∉ ch := fun b o e hx hb => by
    rcases (hch b hb).1 with z | z
    · exact hx z
    · exact absurd (Nat.lt_of_lt_of_le (Heap.lt_size e) z) (Nat.lt_irrefl _)
  have cellK : ∀ x c, X.env.cells.lookup x = some c → ∀ v, s.heap.IsCell c v → h'.IsCell c v := fun x c e v ⟨o, ho, hd⟩ => by
    have nch : c ∉ ch := fun z => (hch c z).2.2.1 x c e rfl
    by_cases hc : c ∈ X.fs
    · obtain ⟨sl, q⟩ := slot c o (I.cne x c e) hc nch ho (I.freeC x c e)
      exact ⟨_, q, hd⟩
    · exact ⟨o, keep c o (I.cne x c e) hc nch ho (I.freeC x c e), hd⟩
  refine ⟨I.ok, I.os, hg, ⟨fun b o e n hb hx => ?_, fun b o e n hb hx => ?_, fun b o e n hx => ?_, fun b o e hx => ?_, fun b xs e => tups b xs (I.base.tups b xs e), fun b o xs e => frzs b o xs (I.base.frzs b o xs e), fun b ps e => ?_⟩, ?_, fun x c e => ?_, ?_, fun x c e => ?_, fun p hp => ?_, hok, I.len⟩
  · exact keep b o (neL b o e) hb (neC b o e hx) (I.base.keep b o e n hb hx) (I.base.free b o e n hx)
  · obtain ⟨sl, e1⟩ := I.base.slot b o e n hb hx
    obtain ⟨sl', e2⟩ := slot b _ (neL b o e) hb (neC b o e hx) e1 (I.base.free b o e n hx)
    exact ⟨sl', e2⟩
  · obtain ⟨o', e1⟩ := I.base.there b o e hx
    exact free b o' (neC b o e hx) e1 (I.base.free b o e n hx)
  · obtain ⟨o', e1⟩ := I.base.there b o e hx
    exact there b o' (neC b o e hx) e1
  · obtain ⟨m1, e1⟩ := I.base.tbls b ps e
    obtain ⟨m2, e2⟩ := tbls b _ e1
    exact ⟨m1 ++ m2, by rw [e2, Array.append_assoc]⟩
  · obtain ⟨m, hn, hl⟩ := I.loc
    refine ⟨m, ns m hn, fun i x v e1 e2 e3 => ?_⟩
    obtain ⟨u, r, l⟩ := hl i x v e1 e2 e3
    refine ⟨u, r, ?_⟩
    rcases l with l | ⟨k, c, e, z⟩
    · exact .inl l
    · exact .inr ⟨k, c, e, cellK x c e _ z⟩
  · obtain ⟨v, z⟩ := I.cell x c e
    exact ⟨v, cellK x c e v z⟩
  · obtain ⟨m, ⟨o, _, _, ho, _⟩, _⟩ := I.loc
    exact free _ o (fun z => (hch _ z).2.1 rfl) ho I.free
  · obtain ⟨v, o, ho, hd⟩ := I.cell x c e
    exact free c o (fun z => (hch c z).2.2.1 x c e rfl) ho (I.freeC x c e)
  · obtain ⟨e, n, ne, nf, d⟩ := I.pin p hp
    have nch : p.1 ∉ ch := fun z => (hch p.1 z).2.2.2 p hp rfl
    exact ⟨keep p.1 p.2 ne nf nch e n, free p.1 p.2 nch e n, ne, nf, d⟩
/-- .. where the frame's own object is kept too -/
theorem Inv.un {t' : Nat} (I : Inv X pins σ H s) (u : Un X.fs [] H H' s.heap h') (hok : HOk X.prog X.w H' h') : Inv X pins σ H' { s with heap := h', toks := t' } := by
  obtain ⟨m, ⟨o, es, ep, ho, r⟩, _⟩ := id I.loc
  obtain ⟨sl, hL⟩ := u.any ho I.free (by simp)
  exact I.step (g' := s.gens) (d' := s.drawn) (ch := []) (fun _ z => nomatch z) (fun b o _ hb _ e n => u.keep b o e n hb (by simp)) (fun b o _ hb _ e n => u.slot b o e n hb (by simp)) (fun b o _ e n => u.free b o e n (by simp)) (fun b o _ e => u.there b o e (by simp)) u.tups u.frzs u.tbls (fun m' hm => by
    obtain ⟨o', es', ep', ho', r'⟩ := hm
    rw [ho] at ho'; cases ho'
    exact ⟨_, es', ep', hL, r'⟩) hok I.bare
/-- behind a call (or a comprehension's block): the slots of this frame may have changed too, the records at ch may have turned -/
theorem Inv.call {g' : Array GenState} {t' : Nat} {d' : Drawn} {ch : List Addr} (I : Inv X pins σ H s) (u : Un (frs X.stack) ch H H' s.heap h') (hok : HOk X.prog X.w H' h') (hg : AllBare g')
    (hch : ∀ b ∈ ch, (b ∈ X.ex ∨ X.s₀.heap.objs.size ≤ b) ∧ b ≠ X.env.locals ∧ (∀ x c, X.env.cells.lookup x = some c → c ≠ b) ∧ ∀ p ∈ X.pn ++ pins, p.1 ≠ b) :
    Inv X pins σ H' { s with heap := h', gens := g', drawn := d', toks := t' } := by
  obtain ⟨m, ⟨o, es, ep, ho, r⟩, _⟩ := id I.loc
  obtain ⟨sl, hL⟩ := u.any ho I.free fun z => (hch _ z).2.1 rfl
  exact I.step (ch := ch) hch (fun b o hL hb hc e n => u.keep b o e n (fun z => (List.mem_cons.mp (I.stkSub b z)).elim hL hb) hc) (fun b o _ _ hc e n => u.any e n hc) (fun b o hc e n => u.free b o e n hc) (fun b o hc e => u.there b o e hc) u.tups u.frzs u.tbls (fun m' hm => by
    obtain ⟨o', es', ep', ho', r'⟩ := hm
    rw [ho] at ho'; cases ho'
    exact ⟨_, es', ep', hL, r'⟩) hok hg
/-- an untracked record of ours (an iterator) has turned -/
theorem Inv.turned {t' : Nat} {it : Addr} (I : Inv X pins σ H s) (k : ∀ b o, b ≠ it → s.heap.get? b = some o → h'.get? b = some o) (hn : H it = none) (hL : it ≠ X.env.locals)
    (h1 : it ∈ X.ex ∨ X.s₀.heap.objs.size ≤ it) (h2 : ∀ x c, X.env.cells.lookup x = some c → c ≠ it) (h3 : ∀ p ∈ X.pn ++ pins, p.1 ≠ it) : Inv X pins σ H { s with heap := h', toks := t' } := by
  have nit : ∀ b u, H b = some u → b ≠ it := fun b u e z => by rw [z, hn] at e; cases e
  refine I.step (g' := s.gens) (d' := s.drawn) (ch := [it]) (fun b hb => ?_) (fun b o _ _ hc e _ => k b o (fun z => hc (by simp [z])) e) (fun b o _ _ hc e _ => ⟨o.slots, k b o (fun z => hc (by simp [z])) e⟩) (fun _ _ _ _ n => n)
    (fun b o hc e => ⟨o, k b o (fun z => hc (by simp [z])) e⟩) (fun _ _ e => e) (fun _ _ _ e => e) (fun b ps e => ⟨#[], by rw [e]; simp⟩) (fun m hm => ?_) (fun b u e => ?_) I.bare
  · have e : b = it := by simpa using hb
    subst e
    exact ⟨h1, hL, h2, h3⟩
  · obtain ⟨o, es, ep, ho, r⟩ := hm
    exact ⟨o, es, ep, k _ o (Ne.symm hL) ho, r⟩
  · refine (I.hok b u e).stay (fun c v hc q => k c v ?_ q) (fun _ q => q) fun _ _ q => q
    rcases hc with z | z
    · rw [z]; exact nit b u e
    · exact nit c _ z
theorem Inv.tok (I : Inv X pins σ H s) (t : Nat) : Inv X pins σ H { s with toks := t } := I.un (h' := s.heap) (t' := t) Un.refl I.hok
/-- all objects kept -/
theorem Inv.kept {t' : Nat} (I : Inv X pins σ H s) (k : ∀ b u, s.heap.get? b = some u → h'.get? b = some u) : Inv X pins σ H { s with heap := h', toks := t' } := I.un (Un.kept k) (I.hok.kept k)
/-- a new object laid and tracked -/
theorem Inv.laid {a : Addr} {o : HO} {t' : Nat} (I : Inv X pins σ H s) (k : ∀ b u, s.heap.get? b = some u → h'.get? b = some u) (hp : s.heap.objs.size ≤ a) (new : ObjOk X.prog X.w (upd H a o) h' a o) :
    Inv X pins σ (upd H a o) { s with heap := h', toks := t' } := I.un (Un.laid k hp (I.hok.fresh hp)) (I.hok.laid k hp new)
/-- an object written -/
theorem Inv.write {x e : Addr} {o : HO} {t' : Nat} (I : Inv X pins σ H s) (mu : Mut (H x)) (he : e = x ∨ H e = some (.own x)) (k : ∀ b u, b ≠ e → s.heap.get? b = some u → h'.get? b = some u) (heo : ∃ u, h'.get? e = some u)
    (new : ObjOk X.prog X.w (upd H x o) h' x o) : Inv X pins σ (upd H x o) { s with heap := h', toks := t' } := I.un (Un.write mu he k heo) (I.hok.write mu he k heo new)
/-- forgetting slots, pins -/
theorem Inv.weak {σ' : List (Option V)} (I : Inv X pins σ H s) (hl : σ'.length = σ.length) (w : ∀ (i : Nat) v, σ'[i]? = some (some v) → σ[i]? = some (some v)) : Inv X pins σ' H s :=
  ⟨I.ok, I.os, I.bare, I.base, let ⟨m, hn, hl'⟩ := I.loc; ⟨m, hn, fun i x v e1 e2 e3 => hl' i x v e1 (w i v e2) e3⟩, I.cell, I.free, I.freeC, I.pin, I.hok, hl.trans I.len⟩
theorem Inv.pins_of {pins' : List (Addr × Obj)} (I : Inv X pins σ H s) (h : ∀ p ∈ pins', s.heap.get? p.1 = some p.2 ∧ H p.1 = none ∧ p.1 ≠ X.env.locals ∧ p.1 ∉ X.fs ∧ ∀ v, p.2.data ≠ .cell v) : Inv X pins' σ H s :=
  ⟨I.ok, I.os, I.bare, I.base, I.loc, I.cell, I.free, I.freeC, fun p hp => (List.mem_append.mp hp).elim (fun z => I.pin p (List.mem_append_left _ z)) (h p), I.hok, I.len⟩

theorem nodup_ix {N : List Str} (hN : N.Nodup) {i j : Nat} {x : Str} (a : N[i]? = some x) (b : N[j]? = some x) : i = j := by
  obtain ⟨h1, e1⟩ := List.getElem?_eq_some_iff.mp a
  obtain ⟨h2, e2⟩ := List.getElem?_eq_some_iff.mp b
  exact (List.getElem_inj hN).mp (e1.trans e2.symm)

/-- a name is stored; what changed -/
theorem store_ok2 {M : Model} {A : Around} {E : Value → Shared → Prop} {i : Nat} {x : Str} {v : V} {u : Value} {Q : Unit → Shared → Prop} (I : Inv X pins σ H s) (hN : X.N.Nodup) (hi : X.N[i]? = some x) (hx : Loc X.env.scope x) (r : RelV v u)
    (h : ∀ s', Inv X pins (σ.set i (some v)) H s' → (∃ a, Heap.SameBut a s.heap s'.heap ∧ (a = X.env.locals ∨ X.env.cells.lookup x = some a)) → Q () s') (hf : X.fn x = true ∨ X.env.scope.names.lookup x = some .local := by first | exact .inl rfl | exact .inr rfl | assumption) : wpAny M A (storeName X.env x u) Q E s := by
  obtain ⟨m, hn, hl⟩ := id I.loc
  have hcls : (X.env.scope.kind == .class || (X.env.scope.kind == .module && X.env.locals != X.env.globals)) = false := by rw [I.ok.kind]; rfl
  have hiσ : i < σ.length := by rw [I.len]; exact (List.getElem?_eq_some_iff.mp hi).1
  have cne := I.cne
  have tracked : ∀ {a : Addr} {h' : Heap}, (∃ o, s.heap.get? a = some o ∧ H a = none) → Heap.SameBut a s.heap h' → HOk X.prog X.w H h' := fun {a h'} ha hs b ob e => by
    obtain ⟨_, _, hfree⟩ := ha
    refine (I.hok b ob e).stay (fun c w' hc q => (hs.2 c ?_).trans q) (fun _ q => q) fun _ _ q => q
    rintro rfl
    rcases hc with rfl | hc
    · rw [hfree] at e; cases e
    · rw [hfree] at hc; cases hc
  rcases hx with hk | hk
  · refine wpAny_storeName_local hk hn (fun h' hn' hs => ?_) hcls
    obtain ⟨oL, _, _, hoL, _⟩ := id hn
    refine h _ ⟨I.ok, I.os, I.bare, ⟨fun b o e n hb hx => ?_, fun b o e n hb hx => ?_, I.base.free, fun b o e hx => ?_, I.base.tups, I.base.frzs, I.base.tbls⟩, ⟨_, hn', fun j y v' e1 e2 e3 => ?_⟩, fun y c e => ?_, I.free, I.freeC, fun p hp => ?_, tracked ⟨oL, hoL, I.free⟩ hs, by simpa using I.len⟩ ⟨_, hs, .inl rfl⟩
    · exact (hs.2 b (Nat.ne_of_lt (Nat.lt_of_lt_of_le (Heap.lt_size e) I.ok.above))).trans (I.base.keep b o e n hb hx)
    · obtain ⟨sl, e1⟩ := I.base.slot b o e n hb hx
      exact ⟨sl, (hs.2 b (Nat.ne_of_lt (Nat.lt_of_lt_of_le (Heap.lt_size e) I.ok.above))).trans e1⟩
    · obtain ⟨o', e1⟩ := I.base.there b o e hx
      exact ⟨o', (hs.2 b (Nat.ne_of_lt (Nat.lt_of_lt_of_le (Heap.lt_size e) I.ok.above))).trans e1⟩
    · by_cases hj : j = i
      · subst hj
        rw [hi] at e1; cases e1
        rw [List.getElem?_set_self hiσ] at e2
        cases e2
        exact ⟨u, r, .inl ⟨hk, by simp⟩⟩
      · rw [List.getElem?_set_ne (Ne.symm hj)] at e2
        obtain ⟨u', r', q⟩ := hl j y v' e1 e2 e3
        refine ⟨u', r', ?_⟩
        rcases q with ⟨k, e⟩ | ⟨k, c, e, z⟩
        · refine .inl ⟨k, ?_⟩
          have : y ≠ x := fun e => hj (nodup_ix hN e1 (e ▸ hi))
          simp [this, e]
        · exact .inr ⟨k, c, e, z.sameBut hs (cne y c e)⟩
    · obtain ⟨w', z⟩ := I.cell y c e
      exact ⟨w', z.sameBut hs (cne y c e)⟩
    · obtain ⟨e, n, ne, nf, d⟩ := I.pin p hp
      exact ⟨(hs.2 p.1 ne).trans e, n, ne, nf, d⟩
  · have hfn : X.fn x = true := by
      rcases hf with z | z
      · exact z
      · rw [z] at hk; cases hk
    obtain ⟨c, hc⟩ := I.ok.has x (.inl hk)
    obtain ⟨w', z⟩ := I.cell x c hc
    refine wpAny_storeName_cell I.ok.kind hk hc z (fun h' hc' hs => ?_)
    obtain ⟨oc, hoc, hocd⟩ := id z
    refine h { s with heap := h' } ⟨I.ok, I.os, I.bare, ⟨fun b o e n hb hx => ?_, fun b o e n hb hx => ?_, I.base.free, fun b o e hx => ?_, I.base.tups, I.base.frzs, I.base.tbls⟩, ⟨m, hn.sameBut hs (Ne.symm (cne x c hc)), fun j y v' e1 e2 e3 => ?_⟩, fun y c' e => ?_, I.free, I.freeC, fun p hp => ?_, tracked ⟨oc, hoc, I.freeC x c hc⟩ hs, by simpa using I.len⟩ ⟨c, hs, .inr hc⟩
    · exact (hs.2 b (Nat.ne_of_lt (Nat.lt_of_lt_of_le (Heap.lt_size e) (I.ok.cab x c hfn hc)))).trans (I.base.keep b o e n hb hx)
    · obtain ⟨sl, e1⟩ := I.base.slot b o e n hb hx
      exact ⟨sl, (hs.2 b (Nat.ne_of_lt (Nat.lt_of_lt_of_le (Heap.lt_size e) (I.ok.cab x c hfn hc)))).trans e1⟩
    · obtain ⟨o', e1⟩ := I.base.there b o e hx
      exact ⟨o', (hs.2 b (Nat.ne_of_lt (Nat.lt_of_lt_of_le (Heap.lt_size e) (I.ok.cab x c hfn hc)))).trans e1⟩
    · by_cases hj : j = i
      · subst hj
        rw [hi] at e1; cases e1
        rw [List.getElem?_set_self hiσ] at e2
        cases e2
        exact ⟨u, r, .inr ⟨.inl hk, c, hc, hc'⟩⟩
      · rw [List.getElem?_set_ne (Ne.symm hj)] at e2
        obtain ⟨u', r', q⟩ := hl j y v' e1 e2 e3
        refine ⟨u', r', ?_⟩
        rcases q with q | ⟨k, c', e, z'⟩
        · exact .inl q
        · refine .inr ⟨k, c', e, z'.sameBut hs ?_⟩
          rintro rfl
          exact hj (nodup_ix hN e1 (I.ok.inj _ _ _ e hc ▸ hi))
    · by_cases hcc : c' = c
      · subst hcc; exact ⟨_, hc'⟩
      · obtain ⟨w2, z2⟩ := I.cell y c' e
        exact ⟨w2, z2.sameBut hs hcc⟩
    · obtain ⟨e, n, ne, nf, d⟩ := I.pin p hp
      refine ⟨(hs.2 p.1 ?_).trans e, n, ne, nf, d⟩
      intro q
      rw [q, hoc] at e
      have q' : oc = p.2 := Option.some.inj e
      exact d w' (by rw [← q']; exact hocd)
theorem store_ok {M : Model} {A : Around} {E : Value → Shared → Prop} {i : Nat} {x : Str} {v : V} {u : Value} {Q : Unit → Shared → Prop} (I : Inv X pins σ H s) (hN : X.N.Nodup) (hi : X.N[i]? = some x) (hx : Loc X.env.scope x) (r : RelV v u)
    (h : ∀ s', Inv X pins (σ.set i (some v)) H s' → Q () s') (hf : X.fn x = true ∨ X.env.scope.names.lookup x = some .local := by first | exact .inl rfl | exact .inr rfl | assumption) : wpAny M A (storeName X.env x u) Q E s :=
  store_ok2 I hN hi hx r (fun s' I' _ => h s' I') hf
/-- behind a call or a block, the state as it is -/
theorem Inv.call' {s' : Shared} {ch : List Addr} (I : Inv X pins σ H s) (ho : s'.os = s.os) (u : Un (frs X.stack) ch H H' s.heap s'.heap) (hok : HOk X.prog X.w H' s'.heap) (hg : AllBare s'.gens)
    (hch : ∀ b ∈ ch, (b ∈ X.ex ∨ X.s₀.heap.objs.size ≤ b) ∧ b ≠ X.env.locals ∧ (∀ x c, X.env.cells.lookup x = some c → c ≠ b) ∧ ∀ p ∈ X.pn ++ pins, p.1 ≠ b) : Inv X pins σ H' s' := by
  obtain ⟨h', g', d', t', o'⟩ := s'
  have e : o' = s.os := ho
  subst e
  exact I.call (g' := g') (t' := t') (d' := d') u hok hg hch
end

/-! ### the judgements -/
/-- an exception: its class, its own dict's address (where it has one), the abstract heap behind it -/
abbrev XK := Value → Option Addr → Hp → Prop
abbrev St := List (Option V)
abbrev VK := V → Hp → Prop
/-- an expression's reading; a test's; an argument list's -/
abbrev TE := St → Hp → VK → Prop
abbrev TT := St → Hp → (Bool → Hp → Prop) → Prop
abbrev TA := St → Hp → (List V → Hp → Prop) → Prop
/-- what is wanted behind a statement -/
structure Ends where
  nx : St → Hp → Prop
  rt : VK
  bk : St → Hp → Prop := fun _ _ => False
  ct : St → Hp → Prop := fun _ _ => False
abbrev TS := Ends → St → Hp → Prop

def EP (X : Cx) (pins : List (Addr × Obj)) (σ : St) (Q : VK) (u : Value) (s' : Shared) : Prop := ∃ v H', Inv X pins σ H' s' ∧ RelV v u ∧ Q v H'
def TP (X : Cx) (pins : List (Addr × Obj)) (σ : St) (Q : Bool → Hp → Prop) (b : Bool) (s' : Shared) : Prop := ∃ H', Inv X pins σ H' s' ∧ Q b H'
def AP (X : Cx) (pins : List (Addr × Obj)) (σ : St) (Q : List V → Hp → Prop) (us : List Value) (s' : Shared) : Prop := ∃ vs H', Inv X pins σ H' s' ∧ Vals vs us ∧ Q vs H'
def SP (X : Cx) (pins : List (Addr × Obj)) (D : Ends) (f : Flow) (s' : Shared) : Prop :=
  match f with
  | .next => ∃ σ' H', Inv X pins σ' H' s' ∧ D.nx σ' H'
  | .brk => ∃ σ' H', Inv X pins σ' H' s' ∧ D.bk σ' H'
  | .cont => ∃ σ' H', Inv X pins σ' H' s' ∧ D.ct σ' H'
  | .ret u => ∃ v σ' H', Inv X pins σ' H' s' ∧ RelV v u ∧ D.rt v H'

def PE (X : Cx) (e : Expr) (t : TE) : Prop :=
  ∀ (pins : List (Addr × Obj)) (s : Shared) (σ : St) (H : Hp) (Q : VK), Inv X pins σ H s → t σ H Q → wpAny (model X.prog X.w) X.A (eval e X.env) (EP X pins σ Q) X.xe s
def PT (X : Cx) (e : Expr) (t : TT) : Prop :=
  ∀ (pins : List (Addr × Obj)) (s : Shared) (σ : St) (H : Hp) (Q : Bool → Hp → Prop), Inv X pins σ H s → t σ H Q → wpAny (model X.prog X.w) X.A (isTrue e X.env (eval e X.env)) (TP X pins σ Q) X.xe s
/-- a test whatever its 'whole' is (and, or) -/
def PW (X : Cx) (e : Expr) (t : TT) : Prop :=
  ∀ (whole : Sem Value) (pins : List (Addr × Obj)) (s : Shared) (σ : St) (H : Hp) (Q : Bool → Hp → Prop), Inv X pins σ H s → t σ H Q → wpAny (model X.prog X.w) X.A (isTrue e X.env whole) (TP X pins σ Q) X.xe s
theorem PW.pt {X : Cx} {e : Expr} {t : TT} (h : PW X e t) : PT X e t := h _
/-- an argument list (no star), from the left -/
def PA (X : Cx) (es : List Expr) (t : TA) : Prop :=
  ∀ (pos : Pos) (pins : List (Addr × Obj)) (s : Shared) (σ : St) (H : Hp) (Q : List V → Hp → Prop), Inv X pins σ H s → t σ H Q → wpAny (model X.prog X.w) X.A (spliced (backTo pos (starEach es X.env))) (AP X pins σ Q) X.xe s
def PS (X : Cx) (st : Stmt) (t : TS) : Prop :=
  ∀ (pins : List (Addr × Obj)) (s : Shared) (σ : St) (H : Hp) (D : Ends), Inv X pins σ H s → t D σ H → wpAny (model X.prog X.w) X.A (exec st X.env) (SP X pins D) X.xe s
def PSs (X : Cx) (st : List Stmt) (t : TS) : Prop :=
  ∀ (pins : List (Addr × Obj)) (s : Shared) (σ : St) (H : Hp) (D : Ends), Inv X pins σ H s → t D σ H → wpAny (model X.prog X.w) X.A (execs st X.env) (SP X pins D) X.xe s
/-- weaken the end -/
theorem thn {α : Type} {t : Sem α} {Q Q' : α → Shared → Prop} {M : Model} {A : Around} {E : Value → Shared → Prop} {s : Shared} (h : wpAny M A t Q E s) (hQ : ∀ a s, Q a s → Q' a s) : wpAny M A t Q' E s := wpAny_mono h hQ fun _ _ x => x
end L2

namespace L2
open PySem PySem.Spec PyProof.Rows
section
variable {X : Cx}

/-- two expressions in a row -/
theorem bin {a b : Expr} {ta tb : TE} (ha : PE X a ta) (hb : PE X b tb) {pins : List (Addr × Obj)} {s : Shared} {σ : St} {H : Hp} {R : V → V → Hp → Prop} (I : Inv X pins σ H s) (h : ta σ H fun x H1 => tb σ H1 fun y H2 => R x y H2)
    {α : Type} {Q : α → Shared → Prop} {f : Value → Value → Sem α}
    (hf : ∀ v u s2 x y H2, Inv X pins σ H2 s2 → RelV x v → RelV y u → R x y H2 → wpAny (model X.prog X.w) X.A (f v u) Q X.xe s2) :
    wpAny (model X.prog X.w) X.A (eval a X.env) (fun v s₁ => wpAny (model X.prog X.w) X.A (eval b X.env) (fun u s₂ => wpAny (model X.prog X.w) X.A (f v u) Q X.xe s₂) X.xe s₁) X.xe s := by
  refine thn (ha pins s σ H _ I h) fun v s1 ⟨x, H1, I1, r1, q1⟩ => ?_
  refine thn (hb pins s1 σ H1 _ I1 q1) fun u s2 ⟨y, H2, I2, r2, q2⟩ => ?_
  exact hf v u s2 x y H2 I2 r1 r2 q2

/-! ### names and constants -/
def tVar (i : Nat) : TE := fun σ H Q => ∃ v, σ[i]? = some (some v) ∧ Q v H
def tC (v : V) : TE := fun _ H Q => Q v H
theorem pe_var {i : Nat} {x : Str} {pos : Pos} (hN : X.N[i]? = some x) (hv : Vis X.env.scope x) (hd : (x == ("__debug__" : Str)) = false := by decide) (hcd : (x == ("__classdict__" : Str)) = false := by decide) : PE X (.Name x pos) (tVar i) := by
  intro pins s σ H Q I h
  obtain ⟨v, e, h⟩ := h
  obtain ⟨m, hn, hl⟩ := I.loc
  obtain ⟨u, r, l⟩ := hl i x v hN e hv
  have fin : EP X pins σ Q u s := ⟨v, H, I, r, h⟩
  rcases l with ⟨hk, hm⟩ | ⟨hk, c, hc, hcell⟩
  · exact wpAny_Name (wpAny_loadName_local I.ok.kind hk hn hm fin) hd
  · rcases hk with hk | hk
    · exact wpAny_Name (wpAny_loadName_cell I.ok.kind hk hc hcell fin) hd
    · exact wpAny_Name (wpAny_loadName_free I.ok.kind hk hc hcell fin hcd) hd
theorem pe_int {i j pos} : PE X (.Constant (.int i) j pos) (tC (.int i)) := fun _ _ _ H _ I h => wpAny_Constant_int ⟨.int i, H, I.tok _, ⟨_, rfl⟩, h⟩
theorem pe_bl {b j pos} : PE X (.Constant (.bool b) j pos) (tC (.bl b)) := fun _ _ _ H _ I h => Constant_bool ⟨.bl b, H, I, rfl, h⟩
theorem pe_non {j pos} : PE X (.Constant .none j pos) (tC .non) := fun _ _ _ H _ I h => Constant_none ⟨.non, H, I, rfl, h⟩
theorem pe_str {x j pos} : PE X (.Constant (.str x) j pos) (tC (.str x)) := fun _ _ _ H _ I h => Calls.Constant_str ⟨.str x, H, I.tok _, ⟨_, rfl⟩, h⟩

/-- a global name of the def -/
def Gl (X : Cx) (x : Str) : Prop := X.env.kindOf x = some .globalImplicit
theorem ld_glob {E : Value → Shared → Prop} {pins : List (Addr × Obj)} {s : Shared} {σ : St} {H : Hp} {x : Str} {u : Value} {pos : Pos} {Q : Value → Shared → Prop} (I : Inv X pins σ H s) (hg : Gl X x) (hm : X.mg x = some u) (h : Q u s)
    (hd : (x == ("__debug__" : Str)) = false := by decide) : wpAny (model X.prog X.w) X.A (eval (.Name x pos) X.env) Q E s :=
  Calls.Name_function_global I.ok.kind hg (Calls.loadGlobal_global (by rw [I.ok.glob]; exact I.mod.glob.keeps I.bk) hm h) hd
theorem ld_blt {E : Value → Shared → Prop} {pins : List (Addr × Obj)} {s : Shared} {σ : St} {H : Hp} {x : Str} {u : Value} {pos : Pos} {Q : Value → Shared → Prop} (I : Inv X pins σ H s) (hg : Gl X x) (hm : X.mg x = none) (hv : bootBuiltins x = some u) (h : Q u s)
    (hn : x ≠ "__name__" := by decide) (hd : (x == ("__debug__" : Str)) = false := by decide) : wpAny (model X.prog X.w) X.A (eval (.Name x pos) X.env) Q E s := by
  obtain ⟨mb, h1, h2⟩ := I.mod.blt
  exact Calls.Name_function_global I.ok.kind hg (Calls.loadGlobal_builtin (by rw [I.ok.glob]; exact I.mod.glob.keeps I.bk) hm (by rw [I.ok.blt]; exact h1.keeps I.bk) ((h2 x hn).trans hv) h) hd
theorem pe_bltn {x : Str} {v : V} {u : Value} {pos : Pos} (hg : Gl X x) (hm : X.mg x = none) (hv : bootBuiltins x = some u) (r : RelV v u) (hn : x ≠ "__name__" := by decide) (hd : (x == ("__debug__" : Str)) = false := by decide) : PE X (.Name x pos) (tC v) :=
  fun _ _ _ H _ I h => ld_blt I hg hm hv ⟨v, H, I, r, h⟩ hn hd

/-! ### arithmetic -/
/-- two ints -/
def t2I (ta tb : TE) (k : Int → Int → Hp → Prop) : St → Hp → Prop := fun σ H => ta σ H fun x H1 => tb σ H1 fun y H2 => ∃ i j, x = .int i ∧ y = .int j ∧ k i j H2
def tAdd (ta tb : TE) : TE := fun σ H Q => t2I ta tb (fun i j H2 => Q (.int (i + j)) H2) σ H
def tSub (ta tb : TE) : TE := fun σ H Q => t2I ta tb (fun i j H2 => Q (.int (i - j)) H2) σ H
/-- the left factor below 2^64 -/
def tMul (ta tb : TE) : TE := fun σ H Q => t2I ta tb (fun i j H2 => (-(2 ^ 64) < i ∧ i < 2 ^ 64) ∧ Q (.int (i * j)) H2) σ H
variable {a b : Expr} {ta tb : TE} {pos : Pos}
/-! ### comparisons -/
def PC (X : Cx) (op : CmpOp) (a b : Expr) (t : TE) : Prop :=
  ∀ (pins : List (Addr × Obj)) (s : Shared) (σ : St) (H : Hp) (Q : VK), Inv X pins σ H s → t σ H Q →
    wpAny (model X.prog X.w) X.A (eval a X.env) (fun v s₁ => wpAny (model X.prog X.w) X.A (eval b X.env) (fun u s₂ => wpAny (model X.prog X.w) X.A (compareOp op v u) (EP X pins σ Q) X.xe s₂) X.xe s₁) X.xe s
def tCmp (p : Int → Int → Bool) (ta tb : TE) : TE := fun σ H Q => t2I ta tb (fun i j H2 => Q (.bl (p i j)) H2) σ H
abbrev tLt : TE → TE → TE := tCmp fun i j => decide (i < j)
abbrev tLe : TE → TE → TE := tCmp fun i j => decide (i ≤ j)
abbrev tGt : TE → TE → TE := tCmp fun i j => decide (j < i)
abbrev tGe : TE → TE → TE := tCmp fun i j => decide (j ≤ i)
abbrev tEqI : TE → TE → TE := tCmp fun i j => decide (i = j)
abbrev tNeI : TE → TE → TE := tCmp fun i j => !decide (i = j)
/-- is None -/
def tIsN (ta : TE) : TE := fun σ H Q => ta σ H fun x H1 => Q (.bl (decide (x = .non))) H1
def tNotN (ta : TE) : TE := fun σ H Q => ta σ H fun x H1 => Q (.bl (!decide (x = .non))) H1
/-- a comparison as a value, as a test -/
def tB (t : TE) : TT := fun σ H Q => t σ H fun x H1 => ∃ c, x = .bl c ∧ Q c H1
theorem pe_cmp {op : CmpOp} {t : TE} (h : PC X op a b t) (h1 : behindInMarks op b = false := by first | exact nobehind _ (by decide) (by decide) | rfl) : PE X (.Compare a [op] [b] pos) t := fun pins s σ H Q I hw => wpAny_Compare1 (h pins s σ H Q I hw) h1
theorem pt_cmp {op : CmpOp} {t : TE} (h : PC X op a b t) (h1 : behindInMarks op b = false := by first | exact nobehind _ (by decide) (by decide) | rfl) : PT X (.Compare a [op] [b] pos) (tB t) := by
  intro pins s σ H Q I hw
  refine wpAny_isTrue_Compare1 (thn (h pins s σ H _ I hw) fun v s1 h1 => thn h1 fun u s2 h2 => thn h2 fun c s3 ⟨x, H1, I1, r1, q1⟩ => ?_) h1
  obtain ⟨d, rfl, q⟩ := q1
  cases r1
  exact wpAny_truthy_bool ⟨H1, I1, q⟩
/-- an expression whose value is a bool, as a test -/
theorem pt_val {e : Expr} {t : TE} (h : PE X e t) (he : ∀ whole, isTrue e X.env whole = (do let v ← whole; standAt e.pos; holding [v] (truthy v)) := by intro _; rfl) : PT X e (tB t) := by
  intro pins s σ H Q I hw
  refine isTrue_plain (thn (h pins s σ H _ I hw) fun v s1 ⟨x, H1, I1, r1, q1⟩ => ?_) (he _)
  obtain ⟨d, rfl, q⟩ := q1
  cases r1
  exact wpAny_truthy_bool ⟨H1, I1, q⟩

/-! ### and, or, not -/
variable {tA tB' : TT} {rest : List Expr}
def tAnd (t u : TT) : TT := fun σ H Q => t σ H fun c H1 => if c = true then u σ H1 Q else Q false H1
def tOr (t u : TT) : TT := fun σ H Q => t σ H fun c H1 => if c = true then Q true H1 else u σ H1 Q
def tNot (t : TT) : TT := fun σ H Q => t σ H fun c H1 => Q (!c) H1
theorem pw_and1 (ha : PT X a tA) : PW X (.BoolOp .And [a] pos) tA := by
  intro wh pins s σ H Q I h
  refine isTrue_and (thn (ha pins s σ H Q I h) fun c s1 e => ?_)
  cases c with
  | true => exact isTrue_and_nil e
  | false => exact e
theorem pw_or1 (ha : PT X a tA) : PW X (.BoolOp .Or [a] pos) tA := by
  intro wh pins s σ H Q I h
  refine isTrue_or (thn (ha pins s σ H Q I h) fun c s1 e => ?_)
  cases c with
  | false => exact isTrue_or_nil e
  | true => exact e
theorem pw_and (ha : PT X a tA) (hb : PW X (.BoolOp .And (b :: rest) pos) tB') : PW X (.BoolOp .And (a :: b :: rest) pos) (tAnd tA tB') := by
  intro wh pins s σ H Q I h
  refine isTrue_and (thn (ha pins s σ H _ I h) fun c s1 ⟨H1, I1, q1⟩ => ?_)
  cases c with
  | true => exact hb wh pins s1 σ H1 Q I1 q1
  | false => exact ⟨H1, I1, q1⟩
theorem pw_or (ha : PT X a tA) (hb : PW X (.BoolOp .Or (b :: rest) pos) tB') : PW X (.BoolOp .Or (a :: b :: rest) pos) (tOr tA tB') := by
  intro wh pins s σ H Q I h
  refine isTrue_or (thn (ha pins s σ H _ I h) fun c s1 ⟨H1, I1, q1⟩ => ?_)
  cases c with
  | true => exact ⟨H1, I1, q1⟩
  | false => exact hb wh pins s1 σ H1 Q I1 q1
theorem pt_not (ha : PT X a tA) : PT X (.UnaryOp .Not a pos) (tNot tA) := by
  intro pins s σ H Q I h
  exact isTrue_not (ha pins s σ H (fun c H1 => Q (!c) H1) I h)
/-- .. as values (bools) -/
def tAndV (ta tb : TE) : TE := fun σ H Q => ta σ H fun x H1 => ∃ c, x = .bl c ∧ if c = true then tb σ H1 Q else Q (.bl false) H1
def tOrV (ta tb : TE) : TE := fun σ H Q => ta σ H fun x H1 => ∃ c, x = .bl c ∧ if c = true then Q (.bl true) H1 else tb σ H1 Q
def tNotV (ta : TE) : TE := fun σ H Q => ta σ H fun x H1 => ∃ c, x = .bl c ∧ Q (.bl (!c)) H1
theorem pe_one {op} {t : TE} (h : PE X a t) : PE X (.BoolOp op [a] pos) t := fun pins s σ H Q I hw => BoolOp_one (h pins s σ H Q I hw)
theorem pe_and (ha : PE X a ta) (hb : PE X (.BoolOp .And (b :: rest) pos) tb) : PE X (.BoolOp .And (a :: b :: rest) pos) (tAndV ta tb) := by
  intro pins s σ H Q I h
  refine BoolOp_and (thn (ha pins s σ H _ I h) fun v s1 ⟨x, H1, I1, r1, q1⟩ => ?_)
  obtain ⟨c, rfl, q1⟩ := q1
  cases r1
  refine wpAny_truthy_bool ?_
  cases c with
  | true => exact hb pins s1 σ H1 Q I1 q1
  | false => exact ⟨.bl false, H1, I1, rfl, q1⟩
theorem pe_not (ha : PE X a ta) : PE X (.UnaryOp .Not a pos) (tNotV ta) := by
  intro pins s σ H Q I h
  refine UnaryOp_ (thn (ha pins s σ H _ I h) fun v s1 ⟨x, H1, I1, r1, q1⟩ => ?_)
  obtain ⟨c, rfl, q1⟩ := q1
  cases r1
  exact not_of (wpAny_truthy_bool ⟨.bl (!c), H1, I1, rfl, q1⟩)
/-- a if t else b -/
def tIf (t : TT) (ta tb : TE) : TE := fun σ H Q => t σ H fun c H1 => if c = true then ta σ H1 Q else tb σ H1 Q
theorem pe_ifExp {c : Expr} (hc : PT X c tA) (ha : PE X a ta) (hb : PE X b tb) : PE X (.IfExp c a b pos) (tIf tA ta tb) := by
  intro pins s σ H Q I h
  refine wpAny_IfExp (thn (hc pins s σ H _ I h) fun d s1 ⟨H1, I1, q1⟩ => ?_)
  cases d with
  | true => exact ha pins s1 σ H1 Q I1 q1
  | false => exact hb pins s1 σ H1 Q I1 q1
end
end L2

namespace L2
open PySem PySem.Spec PyProof.Rows

/-! ### a list, a tuple that is read: tracked, frozen, or an object of the module -/
def SqL (K : PySem.W.Frag) (H : Hp) (a : Addr) (xs : List V) : Prop :=
  Rd H a (.lst xs) ∨
    ∃ (o : Obj) (its : Array Value) (n : Nat), K.lookup a = some o ∧ o.cls = .type "list" ∧ o.dict = none ∧ o.data = .seq its n ∧ its.size ≤ sizeLine ∧ Vals xs its.toList
def SqT (K : PySem.W.Frag) (H : Hp) (a : Addr) (xs : List V) : Prop :=
  Rd H a (.tup xs) ∨
    ∃ (o : Obj) (its : Array Value) (n : Nat), K.lookup a = some o ∧ o.cls = .type "tuple" ∧ o.data = .seq its n ∧ its.size ≤ sizeLine ∧ Vals xs its.toList
def absV : Value → Option V
  | .none => some .non
  | .bool b => some (.bl b)
  | .int i _ => some (.int i)
  | .str x _ => some (.str x)
  | .bytes b _ => some (.byt b)
  | .float b _ => some (.flt b)
  | .ref a => some (.ref a)
  | .type n => some (.ty n)
  | _ => none
theorem RelV.abs {x : V} {u : Value} (r : RelV x u) : absV u = some x := by
  cases x with
  | non => cases r; rfl
  | bl _ => cases r; rfl
  | int _ => obtain ⟨t, rfl⟩ := r; rfl
  | str _ => obtain ⟨t, rfl⟩ := r; rfl
  | byt _ => obtain ⟨t, rfl⟩ := r; rfl
  | flt _ => obtain ⟨t, rfl⟩ := r; rfl
  | ref _ => cases r; rfl
  | ty _ => cases r; rfl
theorem RelV.inj {x y : V} {u : Value} (r : RelV x u) (q : RelV y u) : x = y := Option.some.inj (r.abs.symm.trans q.abs)
theorem Vals.inj : ∀ {xs ys : List V} {us : List Value}, Vals xs us → Vals ys us → xs = ys
  | _, _, _, .nil, .nil => rfl
  | _, _, _, .cons r t, .cons r' t' => by rw [r.inj r', Vals.inj t t']
section
variable {X : Cx} {pins : List (Addr × Obj)} {σ : St} {H : Hp} {s : Shared} {a : Addr} {xs ys : List V}
theorem SqL.of {K : PySem.W.Frag} (h : H a = some (.lst xs)) : SqL K H a xs := .inl (.inl h)
theorem SqT.of {K : PySem.W.Frag} (h : H a = some (.tup xs)) : SqT K H a xs := .inl (.inl h)
theorem Inv.list (I : Inv X pins σ H s) (h : SqL X.K H a xs) : ∃ its : List Value, Vals xs its ∧ PlainL s.heap a its.toArray ∧ xs.length ≤ sizeLine := by
  rcases h with h | ⟨o, its, n, hk, hc, hd, hs, hz, r⟩
  · obtain ⟨z, its, n, r, e⟩ := h.ok I.hok
    exact ⟨its, r, ⟨_, n, e, rfl, rfl, rfl⟩, z⟩
  · refine ⟨its.toList, r, ⟨o, n, I.kIn a o hk, hc, hd, by simpa using hs⟩, ?_⟩
    have e := r.length
    simp only [Array.length_toList] at e
    omega
theorem Inv.tuple (I : Inv X pins σ H s) (h : SqT X.K H a xs) : ∃ its : List Value, Vals xs its ∧ IsTup s.heap a its.toArray ∧ xs.length ≤ sizeLine := by
  rcases h with h | ⟨o, its, n, hk, hc, hs, hz, r⟩
  · obtain ⟨z, its, r, p⟩ := h.ok I.hok
    exact ⟨its, r, p, z⟩
  · refine ⟨its.toList, r, ⟨o, I.kIn a o hk, hc, n, by simpa using hs⟩, ?_⟩
    have e := r.length
    simp only [Array.length_toList] at e
    omega
theorem Inv.list_inj (I : Inv X pins σ H s) (h : SqL X.K H a xs) (h' : SqL X.K H a ys) : xs = ys := by
  obtain ⟨its, r, ⟨o, n, e, _, _, d⟩, _⟩ := I.list h
  obtain ⟨its', r', ⟨o', n', e', _, _, d'⟩, _⟩ := I.list h'
  rw [e] at e'; cases e'
  rw [d] at d'
  injection d' with d1 _
  have : its = its' := by simpa using congrArg Array.toList d1
  subst this
  exact r.inj r'
theorem Inv.tuple_inj (I : Inv X pins σ H s) (h : SqT X.K H a xs) (h' : SqT X.K H a ys) : xs = ys := by
  obtain ⟨its, r, ⟨o, e, _, n, d⟩, _⟩ := I.tuple h
  obtain ⟨its', r', ⟨o', e', _, n', d'⟩, _⟩ := I.tuple h'
  rw [e] at e'; cases e'
  rw [d] at d'
  injection d' with d1 _
  have : its = its' := by simpa using congrArg Array.toList d1
  subst this
  exact r.inj r'
end

/-! ### another wish about exceptions -/
abbrev Cx.wish (X : Cx) (E : Value → Shared → Prop) : Cx := { X with xe := E }
/-- no exception leaves -/
abbrev Cx.nox (X : Cx) : Cx := X.wish fun _ _ => False
theorem Cx.Ok.wish {X : Cx} (ok : X.Ok) (E : Value → Shared → Prop) : (X.wish E).Ok :=
  ⟨ok.mod, ok.kind, ok.glob, ok.blt, ok.above, ok.inj, ok.has, ok.cab, ok.hd, ok.frames, ok.stk, ok.exf, ok.bs, ok.bsz, ok.noex, ok.exfs, ok.funs, ok.frf⟩
theorem Cx.Ok.unwish {X : Cx} {E : Value → Shared → Prop} (ok : (X.wish E).Ok) : X.Ok :=
  ⟨ok.mod, ok.kind, ok.glob, ok.blt, ok.above, ok.inj, ok.has, ok.cab, ok.hd, ok.frames, ok.stk, ok.exf, ok.bs, ok.bsz, ok.noex, ok.exfs, ok.funs, ok.frf⟩
section
variable {X : Cx} {pins : List (Addr × Obj)} {σ : St} {H : Hp} {s : Shared} {E : Value → Shared → Prop}
theorem Inv.wish (I : Inv X pins σ H s) (E : Value → Shared → Prop) : Inv (X.wish E) pins σ H s := ⟨I.ok.wish E, I.os, I.bare, I.base, I.loc, I.cell, I.free, I.freeC, I.pin, I.hok, I.len⟩
theorem Inv.unwish (I : Inv (X.wish E) pins σ H s) : Inv X pins σ H s := ⟨I.ok.unwish, I.os, I.bare, I.base, I.loc, I.cell, I.free, I.freeC, I.pin, I.hok, I.len⟩
theorem SP.unwish {D : Ends} {f : Flow} {s' : Shared} (h : SP (X.wish E) pins D f s') : SP X pins D f s' := by
  cases f with
  | next => obtain ⟨σ', H', I, q⟩ := h; exact ⟨σ', H', I.unwish, q⟩
  | brk => obtain ⟨σ', H', I, q⟩ := h; exact ⟨σ', H', I.unwish, q⟩
  | cont => obtain ⟨σ', H', I, q⟩ := h; exact ⟨σ', H', I.unwish, q⟩
  | ret u => obtain ⟨v, σ', H', I, r, q⟩ := h; exact ⟨v, σ', H', I.unwish, r, q⟩
theorem PSs.nox {st : List Stmt} {t : TS} (h : PSs X.nox st t) : PSs X st t := fun pins s σ H D I hw =>
  wpAny_mono (h pins s σ H D (I.wish _) hw) (fun _ _ q => q.unwish) fun _ _ z => False.elim z
end

/-! ### blocks and small statements -/
section
variable {X : Cx} {st : Stmt} {rest : List Stmt} {t u : TS} {e : Expr} {te : TE} {pos : Pos}
def tNext : TS := fun D σ H => D.nx σ H
def tSeq (t u : TS) : TS := fun D σ H => t { D with nx := u D } σ H
theorem pss_nil : PSs X [] tNext := fun _ _ σ H _ I h => wpAny_execs_nil ⟨σ, H, I, h⟩
theorem pss_cons (h1 : PS X st t) (h2 : PSs X rest u) : PSs X (st :: rest) (tSeq t u) := by
  intro pins s σ H D I h
  refine wpAny_execs_cons (thn (h1 pins s σ H { D with nx := u D } I h) fun f s1 q => ?_)
  cases f with
  | next =>
    obtain ⟨σ', H', I', q⟩ := q
    exact h2 pins s1 σ' H' D I' q
  | ret v => exact q
  | brk => exact q
  | cont => exact q
theorem pss_one (h1 : PS X st t) : PSs X [st] t := by
  intro pins s σ H D I h
  refine wpAny_execs_cons (thn (h1 pins s σ H D I h) fun f s1 q => ?_)
  cases f with
  | next => exact wpAny_execs_nil q
  | ret v => exact q
  | brk => exact q
  | cont => exact q
def tBreak : TS := fun D σ H => D.bk σ H
def tCont : TS := fun D σ H => D.ct σ H
/-- in a def's body nothing is shown -/
theorem Inv.quiet {pins : List (Addr × Obj)} {σ : St} {H : Hp} {s : Shared} (I : Inv X pins σ H s) : interactive X.env = false := by simp [interactive, I.ok.kind]
/-- an expression whose value is dropped -/
def tDrop (te : TE) : TS := fun D σ H => te σ H fun _ H1 => D.nx σ H1
theorem ps_expr (he : PE X e te) (hs : swapsWith e none pos.line X.env = pure false := by rfl) : PS X (.Expr e pos) (tDrop te) := by
  intro pins s σ H D I h
  exact wpAny_Expr_any (thn (he pins s σ H _ I h) fun v s1 ⟨x, H1, I1, r1, q1⟩ => ⟨σ, H1, I1, q1⟩) I.quiet hs
def tRet (te : TE) : TS := fun D σ H => te σ H D.rt
theorem ps_ret (he : PE X e te) : PS X (.Return (some e) pos) (tRet te) := by
  intro pins s σ H D I h
  exact wpAny_Return_some (thn (he pins s σ H _ I h) fun v s1 ⟨x, H1, I1, r1, q1⟩ => ⟨x, σ, H1, I1, r1, q1⟩)
def tRetN : TS := fun D _ H => D.rt .non H
def tIfS (c : TT) (t u : TS) : TS := fun D σ H => c σ H fun b H1 => if b = true then t D σ H1 else u D σ H1
theorem ps_if {c : Expr} {a b : List Stmt} {tc : TT} (hc : PT X c tc) (ha : PSs X a t) (hb : PSs X b u) : PS X (.If c a b pos) (tIfS tc t u) := by
  intro pins s σ H D I h
  refine wpAny_If (thn (hc pins s σ H _ I h) fun d s1 ⟨H1, I1, q1⟩ => ?_)
  cases d with
  | true => exact ha pins s1 σ H1 D I1 q1
  | false => exact hb pins s1 σ H1 D I1 q1
/-- code that the proof never comes to -/
def tNever : TS := fun _ _ _ => False
end

/-! ### targets -/
abbrev TG := V → St → Hp → (St → Hp → Prop) → Prop
abbrev TGs := List V → St → Hp → (St → Hp → Prop) → Prop
def PG (X : Cx) (target : Expr) (t : TG) : Prop :=
  ∀ (pins : List (Addr × Obj)) (s : Shared) (σ : St) (H : Hp) (v : V) (u : Value) (Q : St → Hp → Prop), Inv X pins σ H s → RelV v u → t v σ H Q →
    wpAny (model X.prog X.w) X.A (assign target X.env u) (fun _ s' => ∃ σ' H', Inv X pins σ' H' s' ∧ Q σ' H') X.xe s
/-- several targets, one after another -/
def PGs (X : Cx) (ts : List Expr) (t : TGs) : Prop :=
  ∀ (pins : List (Addr × Obj)) (s : Shared) (σ : St) (H : Hp) (vs : List V) (us : List Value) (Q : St → Hp → Prop), Inv X pins σ H s → Vals vs us → t vs σ H Q →
    wpAny (model X.prog X.w) X.A (assignInOrder ((assignEach ts X.env).map (·.2)) us) (fun _ s' => ∃ σ' H', Inv X pins σ' H' s' ∧ Q σ' H') X.xe s
/-- o[i] = v, by values -/
abbrev TSet := V → V → V → Hp → (Hp → Prop) → Prop
def PSet (X : Cx) (t : TSet) : Prop :=
  ∀ (pins : List (Addr × Obj)) (s : Shared) (σ : St) (H : Hp) (o i v : V) (ov iv u : Value) (Q : Hp → Prop), Inv X pins σ H s → RelV o ov → RelV i iv → RelV v u → t o i v H Q →
    wpAny (model X.prog X.w) X.A (setItem ov iv u) (fun _ s' => ∃ H', Inv X pins σ H' s' ∧ Q H') X.xe s
/-- a op= b, by values -/
abbrev TIp := V → V → Hp → VK → Prop
def PIp (X : Cx) (op : Operator) (t : TIp) : Prop :=
  ∀ (pins : List (Addr × Obj)) (s : Shared) (σ : St) (H : Hp) (x y : V) (v u : Value) (Q : VK), Inv X pins σ H s → RelV x v → RelV y u → t x y H Q →
    wpAny (model X.prog X.w) X.A (inplaceOp op v u) (EP X pins σ Q) X.xe s
section
variable {X : Cx} {pos : Pos}
def gName (i : Nat) : TG := fun v σ H Q => Q (σ.set i (some v)) H
theorem pg_name {i : Nat} {x : Str} (hN : X.N.Nodup) (hi : X.N[i]? = some x) (hx : Loc X.env.scope x) (hf : X.fn x = true ∨ X.env.scope.names.lookup x = some .local := by first | exact .inl rfl | exact .inr rfl | assumption) : PG X (.Name x pos) (gName i) := by
  intro pins s σ H v u Q I r h
  exact wpAny_assign_Name (store_ok I hN hi hx r (fun s' I' => ⟨_, H, I', h⟩) hf)
def gNil : TGs := fun vs σ H Q => vs = [] ∧ Q σ H
def gCons (t : TG) (u : TGs) : TGs := fun vs σ H Q => ∃ v r, vs = v :: r ∧ t v σ H fun σ' H' => u r σ' H' Q
theorem pgs_nil : PGs X [] gNil := by
  intro pins s σ H vs us Q I r h
  obtain ⟨e, h⟩ := h
  subst e
  cases r
  exact assignInOrder_nil ⟨σ, H, I, h⟩
theorem pgs_cons {e : Expr} {es : List Expr} {t : TG} {u : TGs} (h1 : PG X e t) (h2 : PGs X es u)
    (hs : (assignEach (e :: es) X.env).map (·.2) = assign e X.env :: (assignEach es X.env).map (·.2) := by rfl) : PGs X (e :: es) (gCons t u) := by
  intro pins s σ H vs us Q I r h
  obtain ⟨v, vr, e1, h⟩ := h
  subst e1
  cases r with
  | cons r rr =>
    rw [hs]
    refine assignInOrder_cons (thn (h1 pins s σ H _ _ _ I r h) fun _ s1 ⟨σ1, H1, I1, q1⟩ => ?_)
    exact h2 pins s1 σ1 H1 _ _ Q I1 rr q1
/-- (a, b, ..) = a tuple of that length -/
def gTup (K : PySem.W.Frag) (n : Nat) (t : TGs) : TG := fun v σ H Q => ∃ a xs, v = .ref a ∧ SqT K H a xs ∧ xs.length = n ∧ t xs σ H Q
theorem pg_tup {es : List Expr} {k : Nat} {t : TGs} {n : Nat} (hc : X.calm = true) (h : PGs X es t)
    (hn : (assignEach es X.env).length = n := by rfl) (hst : (assignEach es X.env).findIdx? (·.1) = none := by rfl) : PG X (.Tuple es k pos) (gTup X.K n t) := by
  intro pins s σ H v u Q I r hw
  obtain ⟨a, xs, e1, hq, hl, hw⟩ := hw
  subst e1
  cases r
  obtain ⟨its, rv, ht, hz⟩ := I.tuple hq
  refine assign_Tuple_tuple (I.ok.hd hc) ht (by simp [hn, ← hl, rv.length]) hst fun h' hx => ?_
  have I1 : Inv X pins σ H { s with heap := h' } := I.kept (t' := s.toks) fun b o e => hx b o (Nat.ne_of_lt (Heap.lt_size e)) e
  exact h pins _ σ H xs _ Q I1 (by simpa using rv) hw
/-- o[i] = .. -/
def gSub (to ti : TE) (t : TSet) : TG := fun v σ H Q => to σ H fun o H1 => ti σ H1 fun i H2 => t o i v H2 fun H3 => Q σ H3
theorem pg_sub {o i : Expr} {to ti : TE} {t : TSet} (ho : PE X o to) (hi : PE X i ti) (hs : PSet X t)
    (ha : ∀ v, assign (.Subscript o i pos) X.env v = (do
      let ov ← holding [v] (eval o X.env)
      let iv ← holding [v, ov] (eval i X.env)
      standAt pos
      holding [v, ov, iv] (setItem ov iv v)
      release [v, ov, iv] []) := by intro _; rfl) : PG X (.Subscript o i pos) (gSub to ti t) := by
  intro pins s σ H v u Q I r h
  rw [ha]
  refine wpAny_bind (wpAny_holding (thn (ho pins s σ H _ I h) fun ov s1 ⟨x, H1, I1, r1, q1⟩ => ?_))
  refine wpAny_bind (wpAny_holding (thn (hi pins s1 σ H1 _ I1 q1) fun iv s2 ⟨y, H2, I2, r2, q2⟩ => ?_))
  refine wpAny_bind (wpAny_standAt (wpAny_bind (wpAny_holding (thn (hs pins s2 σ H2 x y v ov iv u _ I2 r1 r2 r q2) fun _ s3 ⟨H3, I3, q3⟩ => ?_))))
  exact wpAny_release ⟨σ, H3, I3, q3⟩
/-- target = value -/
def tAsg (te : TE) (g : TG) : TS := fun D σ H => te σ H fun x H1 => g x σ H1 D.nx
theorem ps_asg {tg e : Expr} {te : TE} {g : TG} (he : PE X e te) (hg : PG X tg g) (hs : swapsWithSole [tg] e pos.line X.env = pure false := by rfl) (hw : swappedStores [tg] e X.env = pure none := by rfl)
    (h1 : (assignEach [tg] X.env).map (·.2) = [assign tg X.env] := by rfl) : PS X (.Assign [tg] e pos) (tAsg te g) := by
  intro pins s σ H D I h
  refine wpAny_Assign_stores (thn (he pins s σ H _ I h) fun v s1 ⟨x, H1, I1, r1, q1⟩ => ?_) hs hw
  rw [h1]
  exact thn (hg pins s1 σ H1 x v _ I1 r1 q1) fun _ s2 q => q
/-- name = value -/
theorem ps_set {i : Nat} {x : Str} {e : Expr} {te : TE} {pos' : Pos} (hN : X.N.Nodup) (hi : X.N[i]? = some x) (hx : Loc X.env.scope x) (he : PE X e te) (hs : swapsWith e (some (.Name x pos')) pos.line X.env = pure false := by rfl) (hf : X.fn x = true ∨ X.env.scope.names.lookup x = some .local := by first | exact .inl rfl | exact .inr rfl | assumption) :
    PS X (.Assign [.Name x pos'] e pos) (tAsg te (gName i)) := by
  intro pins s σ H D I h
  refine wpAny_Assign_Name (thn (he pins s σ H _ I h) fun v s1 ⟨y, H1, I1, r1, q1⟩ => ?_) hs
  exact store_ok I1 hN hi hx r1 (fun s2 I2 => ⟨_, H1, I2, q1⟩) hf
/-- a, b = x, y with plain local names: stored from the right; the pair itself is not tracked (the opening rows as in PyProof/Rows/TupAssign.lean:23) -/
def tPar (i j : Nat) (ta : TA) : TS := fun D σ H => ta σ H fun vs H1 => ∃ v w, vs = [v, w] ∧ D.nx ((σ.set i (some v)).set j (some w)) H1
theorem ps_par {i j : Nat} {x y : Str} {a b : Expr} {ta : TA} {px py pt : Pos} {kt k2 pt2} (hc : X.calm = true) (hN : X.N.Nodup) (hi : X.N[i]? = some x) (hj : X.N[j]? = some y) (hij : i ≠ j)
    (hx : X.env.scope.names.lookup x = some .local) (hy : X.env.scope.names.lookup y = some .local) (ha : PA X [a, b] ta)
    (hw : swappedStores [.Tuple [.Name x px, .Name y py] kt pt] (.Tuple [a, b] k2 pt2) X.env = pure (some [x, y]))
    (hs : swapsWithSole [.Tuple [.Name x px, .Name y py] kt pt] (.Tuple [a, b] k2 pt2) pos.line X.env = pure false := by rfl) :
    PS X (.Assign [.Tuple [.Name x px, .Name y py] kt pt] (.Tuple [a, b] k2 pt2) pos) (tPar i j ta) := by
  intro pins s σ H D I h
  rw [exec_Assign_arm]
  refine wpAny_bind (wpAny_standAt ?_)
  rw [hs]
  refine wpAny_bind (wpAny_pure ?_)
  rw [if_neg (by decide)]
  refine wpAny_bind (Tuple_ (thn (ha _ pins s σ H _ I h) fun us s1 ⟨vs, H1, I1, r1, q1⟩ => ?_))
  obtain ⟨v, w, e1, q1⟩ := q1
  subst e1
  obtain ⟨u1, u2, rfl, rv, rw'⟩ : ∃ u1 u2, us = [u1, u2] ∧ RelV v u1 ∧ RelV w u2 := by
    cases r1 with
    | cons p q =>
      cases q with
      | cons p' q' =>
        cases q'
        exact ⟨_, _, rfl, p, p'⟩
  refine wpAny_newObj_type ?_ (by show 2 ≤ sizeLine; decide)
  have I2 : Inv X pins σ H1 { s1 with heap := s1.heap.push { cls := .type "tuple", data := .seq [u1, u2].toArray } } := I1.kept (t' := s1.toks) fun b o e => Heap.get?_push_of_some _ e
  rw [hw]
  refine wpAny_bind (wpAny_pure ?_)
  show wpAny (model X.prog X.w) X.A (do rule "assign.swapped-stores"; let items ← unpackItems (.ref s1.heap.objs.size) 2 none; assignInOrder [fun v => bindName X.env y v, fun v => bindName X.env x v] items.reverse; pure Flow.next) _ _ _
  refine wpAny_bind (wpAny_rule (wpAny_bind (unpackItems_tuple (items := #[u1, u2]) (I.ok.hd hc) (IsTup.new s1.heap _) fun h' hx' => ?_)))
  have I3 := I2.kept (h' := h') (t' := s1.toks) fun b o e => hx' b o (Nat.ne_of_lt (Heap.lt_size e)) e
  show wpAny _ _ (assignInOrder [fun v => bindName X.env y v, fun v => bindName X.env x v] [u2, u1] >>= fun _ => pure Flow.next) _ _ _
  refine wpAny_bind (assignInOrder_cons (wpAny_bindName (store_ok I3 hN hj (.inl hy) rw' (fun s2 I4 => ?_) (.inr hy))))
  refine assignInOrder_cons (wpAny_bindName (store_ok I4 hN hi (.inl hx) rv (fun s3 I5 => assignInOrder_nil (wpAny_pure ?_)) (.inr hx)))
  rw [List.set_comm _ _ (Ne.symm hij)] at I5
  exact ⟨_, H1, I5, q1⟩
/-- name op= e -/
def tAug (i : Nat) (te : TE) (ti : TIp) : TS := fun D σ H => ∃ x, σ[i]? = some (some x) ∧ te σ H fun y H1 => ti x y H1 fun z H2 => D.nx (σ.set i (some z)) H2
/-- o[i] op= e -/
def tAugS (to ti te : TE) (tget : V → V → Hp → VK → Prop) (tip : TIp) (tset : TSet) : TS := fun D σ H => to σ H fun o H1 => ti σ H1 fun i H2 => tget o i H2 fun x H3 => te σ H3 fun y H4 => tip x y H4 fun z H5 => tset o i z H5 fun H6 => D.nx σ H6
/-- o[i], by values -/
def PGet (X : Cx) (t : V → V → Hp → VK → Prop) : Prop :=
  ∀ (pins : List (Addr × Obj)) (s : Shared) (σ : St) (H : Hp) (o i : V) (ov iv : Value) (Q : VK), Inv X pins σ H s → RelV o ov → RelV i iv → t o i H Q →
    wpAny (model X.prog X.w) X.A (getItem ov iv) (EP X pins σ Q) X.xe s
/-- ints -/
def ipI (f : Int → Int → Int) : TIp := fun x y H Q => ∃ i j, x = .int i ∧ y = .int j ∧ Q (.int (f i j)) H
end

/-! ### while -/
section
variable {X : Cx} {pos : Pos}
/-- the invariant W with its measure -/
def tWhile (c : TT) (tb : TS) : TS := fun D σ H => ∃ W : Nat → St → Hp → Prop, (∃ m, W m σ H) ∧ ∀ m σ H, W m σ H →
  c σ H fun b H1 => if b = true then ∃ N : St → Hp → Prop, (∀ σ' H', N σ' H' → ∃ m', m' < m ∧ W m' σ' H') ∧ tb { D with nx := N, ct := N, bk := D.nx } σ H1 else D.nx σ H1
theorem ps_while {c : Expr} {body : List Stmt} {tc : TT} {tb : TS} (hp : PassesOwn (model X.prog X.w) X.A X.env X.xe) (hc : PT X c tc) (hb : PSs X body tb) : PS X (.While c body [] pos) (tWhile tc tb) := by
  intro pins s σ H D I h
  obtain ⟨W, ⟨m0, w0⟩, turn⟩ := h
  refine wpAny_While (codeAny_whileLoop (fun n s' => ∃ σ' H', Inv X pins σ' H' s' ∧ W n σ' H') ?_ m0 ⟨σ, H, I, w0⟩)
  rintro n s1 ⟨σ1, H1, I1, w1⟩
  refine wpAny_passesOwn hp (thn (hc pins s1 σ1 H1 _ I1 (turn n σ1 H1 w1)) fun b s2 ⟨H2, I2, q2⟩ => ?_)
  cases b with
  | true =>
    obtain ⟨N, hN, q2⟩ := q2
    rw [if_pos rfl]
    refine wpAny_passesOwn hp (thn (hb pins s2 σ1 H2 _ I2 q2) fun f s3 q3 => ?_)
    cases f with
    | next =>
      obtain ⟨σ3, H3, I3, n3⟩ := q3
      obtain ⟨m', hm, w3⟩ := hN σ3 H3 n3
      exact ⟨m', hm, σ3, H3, I3, w3⟩
    | cont =>
      obtain ⟨σ3, H3, I3, n3⟩ := q3
      obtain ⟨m', hm, w3⟩ := hN σ3 H3 n3
      exact ⟨m', hm, σ3, H3, I3, w3⟩
    | brk => exact q3
    | ret v => exact q3
  | false =>
    rw [if_neg Bool.false_ne_true]
    exact wpAny_execs_nil ⟨σ1, H2, I2, q2⟩
end

/-! ### what a loop or a comprehension walks -/
/-- at turn i: it yields x (the heap may grow), or it stops -/
structure It where
  go : Nat → Hp → Prop
  yld : Nat → Hp → V → Hp → Prop
  stop : Nat → Hp → Prop
/-- the iterator's own objects may turn: they are not the frame's, not pinned, younger than the entry (or a comprehension's own) -/
def FpOk (X : Cx) (pins : List (Addr × Obj)) (H : Hp) (b : Addr) : Prop :=
  H b = none ∧ b ≠ X.env.locals ∧ b ∉ X.fs ∧ (b ∈ X.ex ∨ X.s₀.heap.objs.size ≤ b) ∧ (∀ x c, X.env.cells.lookup x = some c → c ≠ b) ∧ ∀ p ∈ X.pn ++ pins, p.1 ≠ b
theorem Inv.fpOk {X : Cx} {pins : List (Addr × Obj)} {σ : St} {H H' : Hp} {s : Shared} {b : Addr} (I : Inv X pins σ H s) (hb : s.heap.objs.size ≤ b) (hn : H' b = none) : FpOk X pins H' b := by
  refine ⟨hn, Nat.ne_of_gt (Nat.lt_of_lt_of_le I.lt hb), I.nofs hb, .inr (Nat.le_trans I.sz hb), fun x c e z => ?_, fun p hp z => ?_⟩
  · obtain ⟨v, q⟩ := I.cell x c e
    exact absurd (Nat.lt_of_lt_of_le q.lt (by rw [z]; exact hb)) (Nat.lt_irrefl _)
  · exact absurd (Nat.lt_of_lt_of_le (Heap.lt_size (I.pin p hp).1) (by rw [z]; exact hb)) (Nat.lt_irrefl _)
structure Turn (P : Program) (w : World) (K : PySem.W.Frag) (tg : Expr) (J : It) (fp : List Addr) (it : Addr) (tn : Nat → Heap → Prop) : Prop where
  mem : it ∈ fp
  obj : ∀ i h, tn i h → ∀ b ∈ fp, ∃ o, h.get? b = some o ∧ ∀ v, o.data ≠ .cell v
  keep : ∀ i h h', tn i h → (∀ b ∈ fp, ∀ o, h.get? b = some o → h'.get? b = some o) → tn i h'
  item : ∀ (X : Cx), X.prog = P → X.w = w → X.K = K → X.calm = true → ∀ (i : Nat) (pins : List (Addr × Obj)) (s : Shared) (σ : St) (H : Hp) (E : Value → Shared → Prop), Inv X pins σ H s → (∀ b ∈ fp, FpOk X pins H b) → tn i s.heap → J.go i H →
    wpAny (model P w) X.A (pyNext (.ref it)) (fun r s1 => ∃ u, r = some u ∧
      wpAny (model P w) X.A (letOwnedTupleGo tg (.ref it) u) (fun _ s2 => ∃ x H', Inv X pins σ H' s2 ∧ RelV x u ∧ J.yld i H x H' ∧ tn (i + 1) s2.heap ∧ ∀ b ∈ fp, H' b = none) E s1) E s
  done : ∀ (X : Cx), X.prog = P → X.w = w → X.K = K → X.calm = true → ∀ (i : Nat) (pins : List (Addr × Obj)) (s : Shared) (σ : St) (H : Hp) (E : Value → Shared → Prop), Inv X pins σ H s → (∀ b ∈ fp, FpOk X pins H b) → tn i s.heap → J.stop i H →
    wpAny (model P w) X.A (pyNext (.ref it)) (fun r s1 => r = none ∧ Inv X pins σ H s1) E s
  self : ∀ (A : Around) (i : Nat) (s : Shared) (Q : Value → Shared → Prop) (E : Value → Shared → Prop), tn i s.heap → Q (.ref it) s → wpAny (model P w) A (pyIter (.ref it)) Q E s
abbrev TI := St → Hp → (It → Hp → Prop) → Prop
/-- an iterator has come -/
def PIE (X : Cx) (pins : List (Addr × Obj)) (σ : St) (tg : Expr) (R : It → Hp → Prop) (itv : Value) (s2 : Shared) : Prop :=
  ∃ (it : Addr) (fp : List Addr) (tn : Nat → Heap → Prop) (J : It) (H' : Hp), itv = .ref it ∧ Inv X pins σ H' s2 ∧ Turn X.prog X.w X.K tg J fp it tn ∧ tn 0 s2.heap ∧ (∀ b ∈ fp, FpOk X pins H' b) ∧ R J H'
def PI (X : Cx) (tg iter : Expr) (wi : TI) : Prop :=
  ∀ (pins : List (Addr × Obj)) (s : Shared) (σ : St) (H : Hp) (R : It → Hp → Prop), Inv X pins σ H s → wi σ H R →
    wpAny (model X.prog X.w) X.A (eval iter X.env) (fun v s1 => wpAny (model X.prog X.w) X.A (pyIter v) (PIE X pins σ tg R) X.xe s1) X.xe s

/-- the step ahead of the store is nothing for an iterator that keeps no tuple -/
theorem go_of {M : Model} {A : Around} {E : Value → Shared → Prop} {s : Shared} {tg : Expr} {it : Addr} {u : Value} {o : Obj} {n : String} {vs : Array Value} {Q : Unit → Shared → Prop} (ho : s.heap.get? it = some o) (hc : o.cls = .type n) (hd : o.data = .fields vs)
    (hn : ["enumerate", "zip", "dict_itemiterator", "dict_reverseitemiterator", "odict_iterator", "itertools.zip_longest", "itertools.pairwise"].contains n = false) (hQ : Q () s) : wpAny M A (letOwnedTupleGo tg (.ref it) u) Q E s := by
  unfold letOwnedTupleGo
  cases tg <;> first
    | exact wpAny_pure hQ
    | (cases u <;> first
        | exact wpAny_pure hQ
        | (refine wpAny_bind (wpAny_load ho ?_)
           rw [hc, hd]
           show wpAny M A (if (["enumerate", "zip", "dict_itemiterator", "dict_reverseitemiterator", "odict_iterator", "itertools.zip_longest", "itertools.pairwise"].contains n && vs[0]? == some (rawInt _)) = true then _ else _) Q E s
           rw [if_neg (by intro h; rw [hn, Bool.false_and] at h; cases h)]
           exact wpAny_pure hQ))

/-- the list at a, as it stands at each turn (a loop may append to it) -/
def Itl (K : PySem.W.Frag) (a : Addr) : It :=
  ⟨fun i H => ∃ xs x, SqL K H a xs ∧ xs[i]? = some x, fun i H x H' => H' = H ∧ ∀ xs, SqL K H a xs → xs[i]? = some x, fun i H => ∃ xs, SqL K H a xs ∧ xs.length ≤ i⟩
def Itt (K : PySem.W.Frag) (a : Addr) : It :=
  ⟨fun i H => ∃ xs x, SqT K H a xs ∧ xs[i]? = some x, fun i H x H' => H' = H ∧ ∀ xs, SqT K H a xs → xs[i]? = some x, fun i H => ∃ xs, SqT K H a xs ∧ xs.length ≤ i⟩
/-- lo, lo + 1, .. (n of them) -/
def Itr (lo : Int) (n : Nat) : It := ⟨fun i _ => i < n, fun i H x H' => H' = H ∧ x = .int (lo + i), fun i _ => n ≤ i⟩
theorem turn_list {P : Program} {w : World} {K : PySem.W.Frag} {tg : Expr} (a it : Addr) : Turn P w K tg (Itl K a) [it] it (fun i h => h.IsListIter it a i) where
  mem := by simp
  obj := fun i h st b hb => by
    have e : b = it := by simpa using hb
    subst e
    obtain ⟨o, e, c, d⟩ := st
    exact ⟨o, e, fun v z => by rw [d] at z; cases z⟩
  keep := fun i h h' st k => st.at fun o e => k it (by simp) o e
  item := by
    intro X hP hw hK hc i pins s σ H E I hf st hg
    subst hP hw hK
    obtain ⟨xs, x, hq, hx⟩ := hg
    obtain ⟨its, rv, p, hz⟩ := I.list hq
    obtain ⟨u, hu, ru⟩ := rv.get hx
    obtain ⟨f0, f1, f2, f3, f4, f5⟩ := hf it (by simp)
    refine wpAny_pyNext_list_item st p.isList (x := u) (by simpa using hu) fun h' st' sb => ?_
    have I1 : Inv X pins σ H { s with heap := h' } := I.turned (t' := s.toks) (fun b o hb e => (sb.2 b hb).trans e) f0 f1 f3 f4 f5
    obtain ⟨o, e, c, d⟩ := id st'
    exact ⟨u, rfl, go_of (s := { s with heap := h' }) e c d (by decide) ⟨x, H, I1, ru, ⟨rfl, fun ys hy => by rw [I.list_inj hy hq]; exact hx⟩, st', fun b hb => (hf b hb).1⟩⟩
  done := by
    intro X hP hw hK hc i pins s σ H E I hf st hg
    subst hP hw hK
    obtain ⟨xs, hq, hx⟩ := hg
    obtain ⟨its, rv, p, hz⟩ := I.list hq
    obtain ⟨f0, f1, f2, f3, f4, f5⟩ := hf it (by simp)
    have hl := rv.length
    exact wpAny_pyNext_list_end (I.ok.hd hc) st p.isList (by simp; omega) fun h' eb => ⟨rfl, I.turned (t' := s.toks) (fun b o hb e => eb b o hb e) f0 f1 f3 f4 f5⟩
  self := fun _ _ _ _ _ st h => wpAny_pyIter_listiter st h
theorem turn_tuple {P : Program} {w : World} {K : PySem.W.Frag} {tg : Expr} (a it : Addr) : Turn P w K tg (Itt K a) [it] it (fun i h => h.IsTupleIter it a i) where
  mem := by simp
  obj := fun i h st b hb => by
    have e : b = it := by simpa using hb
    subst e
    obtain ⟨o, e, c, d⟩ := st
    exact ⟨o, e, fun v z => by rw [d] at z; cases z⟩
  keep := fun i h h' st k => st.at fun o e => k it (by simp) o e
  item := by
    intro X hP hw hK hc i pins s σ H E I hf st hg
    subst hP hw hK
    obtain ⟨xs, x, hq, hx⟩ := hg
    obtain ⟨its, rv, p, hz⟩ := I.tuple hq
    obtain ⟨u, hu, ru⟩ := rv.get hx
    obtain ⟨f0, f1, f2, f3, f4, f5⟩ := hf it (by simp)
    refine wpAny_pyNext_tuple_item st (show s.heap.IsTuple a its.toArray from p) (x := u) (by simpa using hu) fun h' st' sb => ?_
    have I1 : Inv X pins σ H { s with heap := h' } := I.turned (t' := s.toks) (fun b o hb e => (sb.2 b hb).trans e) f0 f1 f3 f4 f5
    obtain ⟨o, e, c, d⟩ := id st'
    exact ⟨u, rfl, go_of (s := { s with heap := h' }) e c d (by decide) ⟨x, H, I1, ru, ⟨rfl, fun ys hy => by rw [I.tuple_inj hy hq]; exact hx⟩, st', fun b hb => (hf b hb).1⟩⟩
  done := by
    intro X hP hw hK hc i pins s σ H E I hf st hg
    subst hP hw hK
    obtain ⟨xs, hq, hx⟩ := hg
    obtain ⟨its, rv, p, hz⟩ := I.tuple hq
    obtain ⟨f0, f1, f2, f3, f4, f5⟩ := hf it (by simp)
    have hl := rv.length
    exact wpAny_pyNext_tuple_end (I.ok.hd hc) st (show s.heap.IsTuple a its.toArray from p) (by simp; omega) fun h' eb => ⟨rfl, I.turned (t' := s.toks) (fun b o hb e => eb b o hb e) f0 f1 f3 f4 f5⟩
  self := fun _ _ _ _ _ st h => wpAny_pyIter_tupleiter st h
theorem turn_range {P : Program} {w : World} {K : PySem.W.Frag} {tg : Expr} (it : Addr) (lo : Int) (n : Nat) : Turn P w K tg (Itr lo n) [it] it (fun i h => IsRangeIter h it (lo + (i : Nat) * 1) ((n : Int) - (i : Nat)) 1) where
  mem := by simp
  obj := fun i h st b hb => by
    have e : b = it := by simpa using hb
    subst e
    exact ⟨_, st, fun v z => by
      have z' : Data.fields _ = Data.cell v := z
      cases z'⟩
  keep := fun i h h' st k => k it (by simp) _ st
  item := by
    intro X hP hw hK hc i pins s σ H E I hf st hg
    subst hP hw hK
    obtain ⟨f0, f1, f2, f3, f4, f5⟩ := hf it (by simp)
    have W := Walks.range (prog := X.prog) (w := X.w) (I.ok.hd hc) it lo 1 n
    refine W.item i s _ _ hg st fun v h' tk hv st' kk => ?_
    obtain ⟨t, rfl⟩ := hv
    have I1 : Inv X pins σ H { s with heap := h', toks := tk } := I.turned (fun b o hb e => kk b o (by simpa using hb) e) f0 f1 f3 f4 f5
    refine ⟨_, rfl, go_of (s := { s with heap := h', toks := tk }) (n := "range_iterator") st' rfl rfl (by decide) ⟨.int (lo + i), H, I1, ⟨t, ?_⟩, ⟨rfl, rfl⟩, st', fun b hb => (hf b hb).1⟩⟩
    rw [Int.mul_one]
  done := by
    intro X hP hw hK hc i pins s σ H E I hf st hg
    subst hP hw hK
    obtain ⟨f0, f1, f2, f3, f4, f5⟩ := hf it (by simp)
    exact wpAny_pyNext_range_end (I.ok.hd hc) st (by have : n ≤ i := hg; omega) fun h' eb => ⟨rfl, I.turned (t' := s.toks) (fun b o hb e => eb b o hb e) f0 f1 f3 f4 f5⟩
  self := fun _ _ _ _ _ st h => wpAny_pyIter_rangeiter st h
end L2

namespace L2
open PySem PySem.Spec PyProof.Rows
section
variable {X : Cx} {tg : Expr}
def iList (K : PySem.W.Frag) (tl : TE) : TI := fun σ H R => tl σ H fun x H1 => ∃ a, x = .ref a ∧ (∃ xs, SqL K H1 a xs) ∧ R (Itl K a) H1
def iTup (K : PySem.W.Frag) (tl : TE) : TI := fun σ H R => tl σ H fun x H1 => ∃ a, x = .ref a ∧ (∃ xs, SqT K H1 a xs) ∧ R (Itt K a) H1
theorem pi_list {l : Expr} {tl : TE} (hl : PE X l tl) : PI X tg l (iList X.K tl) := by
  intro pins s σ H R I h
  refine thn (hl pins s σ H _ I h) fun v s1 ⟨x, H1, I1, r1, q1⟩ => ?_
  obtain ⟨a, e, ⟨xs, hq⟩, q⟩ := q1
  subst e
  cases r1
  obtain ⟨its, rv, p, hz⟩ := I1.list hq
  refine wpAny_pyIter_list p.isList ?_
  refine ⟨s1.heap.objs.size, [s1.heap.objs.size], _, _, H1, rfl, I1.kept (t' := s1.toks) fun b o e => Heap.get?_push_of_some _ e, turn_list a _, ⟨_, Heap.get?_push_size _ rfl, rfl, rfl⟩, fun b hb => ?_, q⟩
  have e : b = s1.heap.objs.size := by simpa using hb
  subst e
  exact I1.fpOk (Nat.le_refl _) (I1.hok.fresh (Nat.le_refl _))
theorem pi_tup {l : Expr} {tl : TE} (hl : PE X l tl) : PI X tg l (iTup X.K tl) := by
  intro pins s σ H R I h
  refine thn (hl pins s σ H _ I h) fun v s1 ⟨x, H1, I1, r1, q1⟩ => ?_
  obtain ⟨a, e, ⟨xs, hq⟩, q⟩ := q1
  subst e
  cases r1
  obtain ⟨its, rv, p, hz⟩ := I1.tuple hq
  refine wpAny_pyIter_tuple (show s1.heap.IsTuple a its.toArray from p) ?_
  refine ⟨s1.heap.objs.size, [s1.heap.objs.size], _, _, H1, rfl, I1.kept (t' := s1.toks) fun b o e => Heap.get?_push_of_some _ e, turn_tuple a _, ⟨_, Heap.get?_push_size _ rfl, rfl, rfl⟩, fun b hb => ?_, q⟩
  have e : b = s1.heap.objs.size := by simpa using hb
  subst e
  exact I1.fpOk (Nat.le_refl _) (I1.hok.fresh (Nat.le_refl _))
/-- a range object just made, walked -/
theorem range_it {pins : List (Addr × Obj)} {σ : St} {H : Hp} {s : Shared} {R : It → Hp → Prop} {E : Value → Shared → Prop} {lo hi : Int} {t u v : Tok} {tk : Nat} (I : Inv X pins σ H s) (h1 : -(2 ^ 62) ≤ lo) (h2 : lo < 2 ^ 62) (h3 : -(2 ^ 62) ≤ hi) (h4 : hi < 2 ^ 62)
    (q : R (Itr lo (hi - lo).toNat) H) : wpAny (model X.prog X.w) X.A (pyIter (.ref s.heap.objs.size)) (PIE X pins σ tg R) E { s with heap := s.heap.push { cls := .type "range", data := .fields #[.int lo t, .int hi u, .int 1 v] }, toks := tk } := by
  refine wpAny_pyIter_range (IsRange.new ..) (small_one h1 h2 h3 h4) ?_
  have I1 : Inv X pins σ H { s with heap := s.heap.push { cls := .type "range", data := .fields #[.int lo t, .int hi u, .int 1 v] }, toks := tk } := I.kept fun b o e => Heap.get?_push_of_some _ e
  refine ⟨(s.heap.push { cls := .type "range", data := .fields #[.int lo t, .int hi u, .int 1 v] }).objs.size, [(s.heap.push { cls := .type "range", data := .fields #[.int lo t, .int hi u, .int 1 v] }).objs.size], _, _, H, rfl,
    I1.kept (t' := tk) fun b o e => Heap.get?_push_of_some _ e, turn_range _ lo (hi - lo).toNat, ?_, fun b hb => ?_, q⟩
  · have e1 : lo + ((0 : Nat) : Int) * 1 = lo := by simp
    have e2 : (((hi - lo).toNat : Nat) : Int) - ((0 : Nat) : Int) = Builtin.Range.rangeSize lo hi 1 := by rw [rangeSize_one]; split <;> omega
    show IsRangeIter _ _ (lo + ((0 : Nat) : Int) * 1) ((((hi - lo).toNat : Nat) : Int) - ((0 : Nat) : Int)) 1
    rw [e1, e2]
    exact Heap.get?_push_size _ rfl
  · have e : b = (s.heap.push { cls := .type "range", data := .fields #[.int lo t, .int hi u, .int 1 v] }).objs.size := by simpa using hb
    subst e
    exact I1.fpOk (Nat.le_refl _) (I1.hok.fresh (Nat.le_refl _))
def iRng1 (ta : TA) : TI := fun σ H R => ta σ H fun vs H1 => ∃ j : Int, vs = [.int j] ∧ -(2 ^ 62) ≤ j ∧ j < 2 ^ 62 ∧ R (Itr 0 j.toNat) H1
def iRng2 (ta : TA) : TI := fun σ H R => ta σ H fun vs H1 => ∃ i j : Int, vs = [.int i, .int j] ∧ (-(2 ^ 62) ≤ i ∧ i < 2 ^ 62 ∧ -(2 ^ 62) ≤ j ∧ j < 2 ^ 62) ∧ R (Itr i (j - i).toNat) H1
theorem pi_range1 {a : Expr} {ta : TA} {p pos : Pos} (hg : Gl X "range") (hm : X.mg "range" = none) (ha : PA X [a] ta) (hs : starEach [a] X.env = [(false, eval a X.env)] := by rfl) : PI X tg (.Call (.Name "range" p) [a] [] pos) (iRng1 ta) := by
  intro pins s σ H R I h
  refine Call_ (ld_blt I hg hm boot_range (PyProof.Rows.callWith_type1 (thn (ha pos pins s σ H _ I h) fun us s1 ⟨vs, H1, I1, r1, q1⟩ => ?_) hs rfl))
  obtain ⟨j, e, q1, q2, q⟩ := q1
  subst e
  cases r1 with
  | cons r rr =>
    cases rr
    obtain ⟨t, rfl⟩ := r
    exact call_range_1 (range_it I1 (by omega) (by omega) q1 q2 (by simpa using q))
theorem pi_range2 {a b : Expr} {ta : TA} {p pos : Pos} (hg : Gl X "range") (hm : X.mg "range" = none) (ha : PA X [a, b] ta) (hs : starEach [a, b] X.env = [(false, eval a X.env), (false, eval b X.env)] := by rfl) (hs2 : starEach [b] X.env = [(false, eval b X.env)] := by rfl) :
    PI X tg (.Call (.Name "range" p) [a, b] [] pos) (iRng2 ta) := by
  intro pins s σ H R I h
  refine Call_ (ld_blt I hg hm boot_range (PyProof.Rows.callWith_type1 (thn (ha pos pins s σ H _ I h) fun us s1 ⟨vs, H1, I1, r1, q1⟩ => ?_) (by rw [hs, hs2]) (by rw [hs2]; rfl)))
  obtain ⟨i, j, e, ⟨q1, q2, q3, q4⟩, q⟩ := q1
  subst e
  cases r1 with
  | cons r rr =>
    cases rr with
    | cons r' rr =>
      cases rr
      obtain ⟨t, rfl⟩ := r
      obtain ⟨t', rfl⟩ := r'
      exact call_range_2 (range_it I1 q1 q2 q3 q4 q)

/-! ### for -/
/-- W: the invariant by the turn and a measure; N: what the body is to reach -/
def tFor (wi : TI) (g : TG) (tb : TS) : TS := fun D σ H => wi σ H fun J H1 => ∃ W : Nat → Nat → St → Hp → Prop, (∃ m, W 0 m σ H1) ∧ ∀ i m σ H, W i m σ H →
  (J.stop i H ∧ D.nx σ H) ∨ (J.go i H ∧ ∃ N : St → Hp → Prop, (∀ σ' H', N σ' H' → ∃ m', m' < m ∧ W (i + 1) m' σ' H') ∧ ∀ x H', J.yld i H x H' → g x σ H' fun σ2 H2 => tb { D with nx := N, ct := N, bk := D.nx } σ2 H2)
/-- the records at fp as they stand -/
def pinsAt (fp : List Addr) (h : Heap) : List (Addr × Obj) := fp.filterMap fun b => (h.get? b).map fun o => (b, o)
theorem mem_pinsAt {fp : List Addr} {h : Heap} {b : Addr} {o : Obj} (hb : b ∈ fp) (e : h.get? b = some o) : (b, o) ∈ pinsAt fp h := List.mem_filterMap.mpr ⟨b, hb, by rw [e]; rfl⟩
theorem of_pinsAt {fp : List Addr} {h : Heap} {p : Addr × Obj} (hp : p ∈ pinsAt fp h) : p.1 ∈ fp ∧ h.get? p.1 = some p.2 := by
  obtain ⟨b, hb, e⟩ := List.mem_filterMap.mp hp
  cases q : h.get? b with
  | none => rw [q] at e; cases e
  | some o =>
    rw [q] at e
    have e' : (b, o) = p := Option.some.inj e
    subst e'
    exact ⟨hb, q⟩
theorem Inv.pinned {pins : List (Addr × Obj)} {σ : St} {H : Hp} {s : Shared} {fp : List Addr} (I : Inv X pins σ H s) (hf : ∀ b ∈ fp, FpOk X pins H b) (ho : ∀ b ∈ fp, ∃ o, s.heap.get? b = some o ∧ ∀ v, o.data ≠ .cell v) : Inv X (pins ++ pinsAt fp s.heap) σ H s :=
  I.pins_of fun p hp => (List.mem_append.mp hp).elim (fun z => I.pin p (List.mem_append_right _ z)) fun z => by
    obtain ⟨hb, e⟩ := of_pinsAt z
    obtain ⟨f0, f1, f2, _⟩ := hf p.1 hb
    obtain ⟨o, e', d⟩ := ho p.1 hb
    rw [e] at e'; cases e'
    exact ⟨e, f0, f1, f2, d⟩
theorem Inv.unpinned {pins pl : List (Addr × Obj)} {σ : St} {H : Hp} {s : Shared} (I : Inv X (pins ++ pl) σ H s) : Inv X pins σ H s := I.pins_of fun p hp => I.pin p (List.mem_append_right _ (List.mem_append_left _ hp))
theorem ps_for {iter : Expr} {body : List Stmt} {wi : TI} {g : TG} {tb : TS} {pos : Pos} (hp : PassesOwn (model X.prog X.w) X.A X.env X.xe) (hc : X.calm = true) (hi : PI X tg iter wi) (hg : PG X tg g) (hb : PSs X body tb)
    (hs : ∀ x, foldedSetIterable iter X.env x = pure x := by intro _; rfl) : PS X (.For tg iter body [] pos) (tFor wi g tb) := by
  intro pins s σ H D I h
  refine wpAny_For (thn (hi pins s σ H _ I h) fun v s1 h1 => thn h1 fun itv s2 h2 => ?_) hs
  obtain ⟨it, fp, tn, J, H2, e, I2, T, st2, f2, W, ⟨m0, w0⟩, turn⟩ := h2
  subst e
  -- what stays true of the iterator's objects through the loop
  have stat : ∀ {H' : Hp}, (∀ b ∈ fp, H' b = none) → ∀ b ∈ fp, FpOk X pins H' b := fun hn b hb => ⟨hn b hb, (f2 b hb).2⟩
  refine codeAny_forLoop_any (fun n s' => ∃ i σ' H', Inv X pins σ' H' s' ∧ tn i s'.heap ∧ (∀ b ∈ fp, H' b = none) ∧ W i n σ' H') ?_ m0 ⟨0, σ, H2, I2, st2, fun b hb => (f2 b hb).1, w0⟩
  rintro n s3 ⟨i, σ3, H3, I3, st3, fr3, w3⟩
  rcases turn i n σ3 H3 w3 with ⟨stop, qn⟩ | ⟨go, N, hN, step⟩
  · refine wpAny_passesOwn hp (thn (T.done X rfl rfl rfl hc i pins s3 σ3 H3 X.xe I3 (stat fr3) st3 stop) fun r s4 ⟨hr, I4⟩ => ?_)
    subst hr
    exact wpAny_execs_nil ⟨σ3, H3, I4, qn⟩
  · refine wpAny_passesOwn hp (thn (T.item X rfl rfl rfl hc i pins s3 σ3 H3 X.xe I3 (stat fr3) st3 go) fun r s4 ⟨u, hr, h4⟩ => ?_)
    subst hr
    refine wpAny_passesOwn hp (thn h4 fun _ s5 ⟨x, H5, I5, r5, y5, st5, fr5⟩ => ?_)
    have I5' := I5.pinned (stat fr5) (T.obj _ _ st5)
    refine wpAny_passesOwn hp (thn (hg _ s5 σ3 H5 x u _ I5' r5 (step x H5 y5)) fun _ s6 ⟨σ6, H6, I6, q6⟩ => ?_)
    refine wpAny_passesOwn hp (thn (hb _ s6 σ6 H6 _ I6 q6) fun f s7 q7 => ?_)
    have again : ∀ {σ7 : St} {H7 : Hp}, Inv X (pins ++ pinsAt fp s5.heap) σ7 H7 s7 → N σ7 H7 → ∃ m, m < n ∧ ∃ i σ' H', Inv X pins σ' H' s7 ∧ tn i s7.heap ∧ (∀ b ∈ fp, H' b = none) ∧ W i m σ' H' := fun {σ7 H7} I7 n7 => by
      obtain ⟨m', hm, w7⟩ := hN σ7 H7 n7
      refine ⟨m', hm, i + 1, σ7, H7, I7.unpinned, T.keep _ _ _ st5 fun b hb o e => (I7.pin (b, o) (List.mem_append_right _ (List.mem_append_right _ (mem_pinsAt hb e)))).1, fun b hb => ?_, w7⟩
      obtain ⟨o, e, d⟩ := T.obj _ _ st5 b hb
      exact (I7.pin (b, o) (List.mem_append_right _ (List.mem_append_right _ (mem_pinsAt hb e)))).2.1
    cases f with
    | next => obtain ⟨σ7, H7, I7, n7⟩ := q7; exact again I7 n7
    | cont => obtain ⟨σ7, H7, I7, n7⟩ := q7; exact again I7 n7
    | brk => obtain ⟨σ7, H7, I7, q7⟩ := q7; exact ⟨σ7, H7, I7.unpinned, q7⟩
    | ret v => obtain ⟨x7, σ7, H7, I7, r7, q7⟩ := q7; exact ⟨x7, σ7, H7, I7.unpinned, r7, q7⟩
end

/-! ### the forms one uses -/
/-- over a list that the body leaves as it is -/
theorem for_list {K : PySem.W.Frag} {a : Addr} {xs : List V} {g : TG} {tb : TS} {D : Ends} {σ : St} {H : Hp} (Pv : Nat → St → Hp → Prop) (h0 : Pv 0 σ H) (hl : ∀ i σ H, i ≤ xs.length → Pv i σ H → SqL K H a xs)
    (hs : ∀ i x σ H, xs[i]? = some x → Pv i σ H → g x σ H fun σ2 H2 => tb { D with nx := Pv (i + 1), ct := Pv (i + 1), bk := D.nx } σ2 H2) (hd : ∀ σ H, Pv xs.length σ H → D.nx σ H) :
    ∃ W : Nat → Nat → St → Hp → Prop, (∃ m, W 0 m σ H) ∧ ∀ i m σ H, W i m σ H →
      ((Itl K a).stop i H ∧ D.nx σ H) ∨ ((Itl K a).go i H ∧ ∃ N : St → Hp → Prop, (∀ σ' H', N σ' H' → ∃ m', m' < m ∧ W (i + 1) m' σ' H') ∧ ∀ x H', (Itl K a).yld i H x H' → g x σ H' fun σ2 H2 => tb { D with nx := N, ct := N, bk := D.nx } σ2 H2) := by
  refine ⟨fun i m σ H => m = xs.length - i ∧ i ≤ xs.length ∧ Pv i σ H, ⟨xs.length, by simp, Nat.zero_le _, h0⟩, ?_⟩
  rintro i m σ H ⟨rfl, hi, p⟩
  have q := hl i σ H hi p
  by_cases hlt : i < xs.length
  · refine .inr ⟨⟨xs, xs[i], q, by simp [hlt]⟩, Pv (i + 1), fun σ' H' p' => ⟨xs.length - (i + 1), by omega, rfl, hlt, p'⟩, fun x H' y => ?_⟩
    obtain ⟨e, y⟩ := y
    subst e
    exact hs i x σ _ (y xs q) p
  · have e : i = xs.length := by omega
    subst e
    exact .inl ⟨⟨xs, q, Nat.le_refl _⟩, hd σ H p⟩
theorem for_tup {K : PySem.W.Frag} {a : Addr} {xs : List V} {g : TG} {tb : TS} {D : Ends} {σ : St} {H : Hp} (Pv : Nat → St → Hp → Prop) (h0 : Pv 0 σ H) (hl : ∀ i σ H, i ≤ xs.length → Pv i σ H → SqT K H a xs)
    (hs : ∀ i x σ H, xs[i]? = some x → Pv i σ H → g x σ H fun σ2 H2 => tb { D with nx := Pv (i + 1), ct := Pv (i + 1), bk := D.nx } σ2 H2) (hd : ∀ σ H, Pv xs.length σ H → D.nx σ H) :
    ∃ W : Nat → Nat → St → Hp → Prop, (∃ m, W 0 m σ H) ∧ ∀ i m σ H, W i m σ H →
      ((Itt K a).stop i H ∧ D.nx σ H) ∨ ((Itt K a).go i H ∧ ∃ N : St → Hp → Prop, (∀ σ' H', N σ' H' → ∃ m', m' < m ∧ W (i + 1) m' σ' H') ∧ ∀ x H', (Itt K a).yld i H x H' → g x σ H' fun σ2 H2 => tb { D with nx := N, ct := N, bk := D.nx } σ2 H2) := by
  refine ⟨fun i m σ H => m = xs.length - i ∧ i ≤ xs.length ∧ Pv i σ H, ⟨xs.length, by simp, Nat.zero_le _, h0⟩, ?_⟩
  rintro i m σ H ⟨rfl, hi, p⟩
  have q := hl i σ H hi p
  by_cases hlt : i < xs.length
  · refine .inr ⟨⟨xs, xs[i], q, by simp [hlt]⟩, Pv (i + 1), fun σ' H' p' => ⟨xs.length - (i + 1), by omega, rfl, hlt, p'⟩, fun x H' y => ?_⟩
    obtain ⟨e, y⟩ := y
    subst e
    exact hs i x σ _ (y xs q) p
  · have e : i = xs.length := by omega
    subst e
    exact .inl ⟨⟨xs, q, Nat.le_refl _⟩, hd σ H p⟩
theorem for_range {lo : Int} {n : Nat} {g : TG} {tb : TS} {D : Ends} {σ : St} {H : Hp} (Pv : Nat → St → Hp → Prop) (h0 : Pv 0 σ H)
    (hs : ∀ i σ H, i < n → Pv i σ H → g (.int (lo + i)) σ H fun σ2 H2 => tb { D with nx := Pv (i + 1), ct := Pv (i + 1), bk := D.nx } σ2 H2) (hd : ∀ σ H, Pv n σ H → D.nx σ H) :
    ∃ W : Nat → Nat → St → Hp → Prop, (∃ m, W 0 m σ H) ∧ ∀ i m σ H, W i m σ H →
      ((Itr lo n).stop i H ∧ D.nx σ H) ∨ ((Itr lo n).go i H ∧ ∃ N : St → Hp → Prop, (∀ σ' H', N σ' H' → ∃ m', m' < m ∧ W (i + 1) m' σ' H') ∧ ∀ x H', (Itr lo n).yld i H x H' → g x σ H' fun σ2 H2 => tb { D with nx := N, ct := N, bk := D.nx } σ2 H2) := by
  refine ⟨fun i m σ H => m = n - i ∧ i ≤ n ∧ Pv i σ H, ⟨n, by simp, Nat.zero_le _, h0⟩, ?_⟩
  rintro i m σ H ⟨rfl, hi, p⟩
  by_cases hlt : i < n
  · refine .inr ⟨hlt, Pv (i + 1), fun σ' H' p' => ⟨n - (i + 1), by omega, rfl, hlt, p'⟩, fun x H' y => ?_⟩
    obtain ⟨e, y⟩ := y
    subst e y
    exact hs i σ _ hlt p
  · have e : i = n := by omega
    subst e
    exact .inl ⟨Nat.le_refl _, hd σ H p⟩
/-- while, by a word and a measure of the state -/
theorem while_by {c : TT} {tb : TS} {D : Ends} {σ : St} {H : Hp} (Pv : St → Hp → Prop) (μ : St → Hp → Nat) (h0 : Pv σ H)
    (hs : ∀ σ H, Pv σ H → c σ H fun b H1 => if b = true then tb { D with nx := fun σ' H' => Pv σ' H' ∧ μ σ' H' < μ σ H, ct := fun σ' H' => Pv σ' H' ∧ μ σ' H' < μ σ H, bk := D.nx } σ H1 else D.nx σ H1)
    (mono : ∀ σ H Q Q', (∀ b H1, Q b H1 → Q' b H1) → c σ H Q → c σ H Q') : tWhile c tb D σ H := by
  refine ⟨fun m σ H => m = μ σ H ∧ Pv σ H, ⟨_, rfl, h0⟩, ?_⟩
  rintro m σ H ⟨rfl, p⟩
  refine mono σ H _ _ (fun b H1 q => ?_) (hs σ H p)
  cases b with
  | true => exact ⟨_, fun σ' H' ⟨p', l⟩ => ⟨_, l, rfl, p'⟩, q⟩
  | false => exact q
end L2

namespace L2
open PySem PySem.Spec PyProof.Rows

abbrev R2 := V → V → Hp → VK → Prop
/-- a two-place operation on values: f is binaryOp op, inplaceOp op or compareOp op -/
def OpR (X : Cx) (f : Value → Value → Sem Value) (r : R2) : Prop :=
  ∀ (pins : List (Addr × Obj)) (s : Shared) (σ : St) (H : Hp) (x y : V) (v u : Value) (Q : VK), Inv X pins σ H s → RelV x v → RelV y u → r x y H Q →
    wpAny (model X.prog X.w) X.A (f v u) (EP X pins σ Q) X.xe s
/-- a one-place operation -/
def UnR (X : Cx) (f : Value → Sem Value) (r : V → Hp → VK → Prop) : Prop :=
  ∀ (pins : List (Addr × Obj)) (s : Shared) (σ : St) (H : Hp) (x : V) (v : Value) (Q : VK), Inv X pins σ H s → RelV x v → r x H Q →
    wpAny (model X.prog X.w) X.A (f v) (EP X pins σ Q) X.xe s
/-- a call of a value that is known (a builtin, a type) with values -/
def CallR (X : Cx) (f : Value) (r : List V → Hp → VK → Prop) : Prop :=
  ∀ (pins : List (Addr × Obj)) (s : Shared) (σ : St) (H : Hp) (xs : List V) (us : List Value) (Q : VK), Inv X pins σ H s → Vals xs us → r xs H Q →
    wpAny (model X.prog X.w) X.A (call f us) (EP X pins σ Q) X.xe s
/-- a value's truth -/
def TruR (X : Cx) (r : V → Hp → (Bool → Hp → Prop) → Prop) : Prop :=
  ∀ (pins : List (Addr × Obj)) (s : Shared) (σ : St) (H : Hp) (x : V) (v : Value) (Q : Bool → Hp → Prop), Inv X pins σ H s → RelV x v → r x H Q →
    wpAny (model X.prog X.w) X.A (truthy v) (TP X pins σ Q) X.xe s

def tOp (r : R2) (ta tb : TE) : TE := fun σ H Q => ta σ H fun x H1 => tb σ H1 fun y H2 => r x y H2 Q
def tUn (r : V → Hp → VK → Prop) (ta : TE) : TE := fun σ H Q => ta σ H fun x H1 => r x H1 Q
/-- ints in, under C, and a value out -/
def rI (C : Int → Int → Prop) (g : Int → Int → V) : R2 := fun x y H Q => ∃ i j, x = .int i ∧ y = .int j ∧ C i j ∧ Q (g i j) H
def rI0 (g : Int → Int → V) : R2 := fun x y H Q => ∃ i j, x = .int i ∧ y = .int j ∧ Q (g i j) H
def rU (g : Int → V) : V → Hp → VK → Prop := fun x H Q => ∃ i, x = .int i ∧ Q (g i) H

section
variable {X : Cx} {a b c : Expr} {ta tb tc : TE} {pos : Pos}

theorem binT (ha : PE X a ta) (hb : PE X b tb) {pins : List (Addr × Obj)} {s : Shared} {σ : St} {H : Hp} {R : V → V → Hp → Prop} (I : Inv X pins σ H s)
    (h : ta σ H fun x H1 => tb σ H1 fun y H2 => R x y H2) {Q : Value → Shared → Prop} {f : Value → Value → Sem Value}
    (hf : ∀ v u s2 x y H2, Inv X pins σ H2 s2 → RelV x v → RelV y u → R x y H2 → wpAny (model X.prog X.w) X.A (f v u) Q X.xe s2) :
    wpAny (model X.prog X.w) X.A (eval a X.env) (fun v s₁ => wpAny (model X.prog X.w) X.A (eval b X.env) (fun u s₂ => wpAny (model X.prog X.w) X.A (f v u) Q X.xe s₂) X.xe s₁) X.xe s := by
  refine thn (ha pins s σ H _ I h) fun v s1 ⟨x, H1, I1, r1, q1⟩ => ?_
  refine thn (hb pins s1 σ H1 _ I1 q1) fun u s2 ⟨y, H2, I2, r2, q2⟩ => ?_
  exact hf v u s2 x y H2 I2 r1 r2 q2

theorem pe_op {op : Operator} {r : R2} (ho : OpR X (binaryOp op) r) (ha : PE X a ta) (hb : PE X b tb) : PE X (.BinOp a op b pos) (tOp r ta tb) := by
  intro pins s σ H Q I h
  exact wpAny_BinOp (binT ha hb I h fun v u s2 x y H2 I2 rx ry q => ho pins s2 σ H2 x y v u Q I2 rx ry q)
theorem pe_un {op : UnaryOp} {r : V → Hp → VK → Prop} (ho : UnR X (unaryOp op) r) (ha : PE X a ta) : PE X (.UnaryOp op a pos) (tUn r ta) := by
  intro pins s σ H Q I h
  exact UnaryOp_ (thn (ha pins s σ H _ I h) fun v s1 ⟨x, H1, I1, r1, q1⟩ => ho pins s1 σ H1 x v Q I1 r1 q1)
/-! ### ints -/
theorem opI {f : Value → Value → Sem Value} {C : Int → Int → Prop} {g : Int → Int → Int}
    (rule : ∀ (i j : Int) (t u : Tok) (s : Shared) (Q : Value → Shared → Prop) (E : Value → Shared → Prop), C i j → Q (.int (g i j) s.toks) { s with toks := s.toks + 1 } → wpAny (model X.prog X.w) X.A (f (.int i t) (.int j u)) Q E s) :
    OpR X f (rI C fun i j => .int (g i j)) := by
  intro pins s σ H x y v u Q I rx ry h
  obtain ⟨i, j, rfl, rfl, hc, q⟩ := h
  obtain ⟨t, rfl⟩ := rx
  obtain ⟨t', rfl⟩ := ry
  exact rule i j t t' s _ _ hc ⟨.int (g i j), H, I.tok _, ⟨_, rfl⟩, q⟩
theorem opI0 {f : Value → Value → Sem Value} {g : Int → Int → Int}
    (rule : ∀ (i j : Int) (t u : Tok) (s : Shared) (Q : Value → Shared → Prop) (E : Value → Shared → Prop), Q (.int (g i j) s.toks) { s with toks := s.toks + 1 } → wpAny (model X.prog X.w) X.A (f (.int i t) (.int j u)) Q E s) :
    OpR X f (rI0 fun i j => .int (g i j)) := by
  intro pins s σ H x y v u Q I rx ry h
  obtain ⟨i, j, rfl, rfl, q⟩ := h
  obtain ⟨t, rfl⟩ := rx
  obtain ⟨t', rfl⟩ := ry
  exact rule i j t t' s _ _ ⟨.int (g i j), H, I.tok _, ⟨_, rfl⟩, q⟩
theorem opB0 {f : Value → Value → Sem Value} {g : Int → Int → Bool}
    (rule : ∀ (i j : Int) (t u : Tok) (s : Shared) (Q : Value → Shared → Prop) (E : Value → Shared → Prop), Q (.bool (g i j)) s → wpAny (model X.prog X.w) X.A (f (.int i t) (.int j u)) Q E s) :
    OpR X f (rI0 fun i j => .bl (g i j)) := by
  intro pins s σ H x y v u Q I rx ry h
  obtain ⟨i, j, rfl, rfl, q⟩ := h
  obtain ⟨t, rfl⟩ := rx
  obtain ⟨t', rfl⟩ := ry
  exact rule i j t t' s _ _ ⟨.bl (g i j), H, I, rfl, q⟩

def CDiv (i j : Int) : Prop := 0 < j ∧ j < 1073741824
def CDivN (i j : Int) : Prop := j ≠ 0 ∧ j.natAbs < 1073741824
def CPow (i j : Int) : Prop := 0 ≤ j ∧ j ≤ 1000000 ∧ i.natAbs < 2 ^ 64
def CMul (i j : Int) : Prop := (-(2 ^ 64) < i ∧ i < 2 ^ 64) ∨ (-(2 ^ 64) < j ∧ j < 2 ^ 64)
theorem op_add : OpR X (binaryOp .Add) (rI0 fun i j => .int (i + j)) := opI0 fun _ _ _ _ _ _ _ q => add_int q
theorem op_sub : OpR X (binaryOp .Sub) (rI0 fun i j => .int (i - j)) := opI0 fun _ _ _ _ _ _ _ q => sub_int q
/-- % by a positive divisor of any size -/
theorem op_mod : OpR X (binaryOp .Mod) (rI (fun _ j => 0 < j) fun i j => .int (i % j)) := opI fun i j _ _ _ _ _ hc q => by
  have h1 : (0 : Int) < j := hc
  exact mod_int' (by omega) (by rw [Int.fmod_eq_emod_of_nonneg i (by omega)]; exact q)
theorem unI {f : Value → Sem Value} {g : Int → Int}
    (rule : ∀ (i : Int) (t : Tok) (s : Shared) (Q : Value → Shared → Prop) (E : Value → Shared → Prop), Q (.int (g i) s.toks) { s with toks := s.toks + 1 } → wpAny (model X.prog X.w) X.A (f (.int i t)) Q E s) :
    UnR X f (rU fun i => .int (g i)) := by
  intro pins s σ H x v Q I rx h
  obtain ⟨i, rfl, q⟩ := h
  obtain ⟨t, rfl⟩ := rx
  exact rule i t s _ _ ⟨.int (g i), H, I.tok _, ⟨_, rfl⟩, q⟩
theorem un_neg : UnR X (unaryOp .USub) (rU fun i => .int (-i)) := unI fun _ _ _ _ _ q => neg_int q
/-! ### bools among ints: n += (a < b) -/
end

/-! ### comparisons -/
/-- the scalars that == tells apart as data does -/
def scal : V → V → Bool
  | .non, .non => true | .non, .int _ => true | .int _, .non => true | .non, .bl _ => true | .bl _, .non => true | .non, .str _ => true | .str _, .non => true
  | .int _, .int _ => true | .bl _, .bl _ => true | .str _, .str _ => true | .byt _, .byt _ => true
  | .int _, .str _ => true | .str _, .int _ => true | .bl _, .str _ => true | .str _, .bl _ => true
  | _, _ => false
def rEq : R2 := fun x y H Q => scal x y = true ∧ Q (.bl (decide (x = y))) H
def rNe : R2 := fun x y H Q => scal x y = true ∧ Q (.bl (!decide (x = y))) H

theorem dec_int {i j : Int} : decide (V.int i = V.int j) = (i == j) := by
  rw [Bool.eq_iff_iff]
  simp
theorem dec_bl {i j : Bool} : decide (V.bl i = V.bl j) = (i == j) := by
  rw [Bool.eq_iff_iff]
  simp
theorem dec_str {i j : Str} : decide (V.str i = V.str j) = (i == j) := by
  rw [Bool.eq_iff_iff]
  simp
theorem dec_byt {i j : Array UInt8} : decide (V.byt i = V.byt j) = (i.toList == j.toList) := by
  rw [Bool.eq_iff_iff]
  cases i
  cases j
  simp

section
variable {X : Cx} {a b c : Expr} {ta tb tc : TE} {pos : Pos}
theorem fin_bl {pins : List (Addr × Obj)} {σ : St} {H : Hp} {s : Shared} {Q : VK} {k k' : Bool} (I : Inv X pins σ H s) (q : Q (.bl k) H) (e : k = k') : EP X pins σ Q (.bool k') s := by
  subst e
  exact ⟨.bl k, H, I, rfl, q⟩
theorem op_eq : OpR X (compareOp .Eq) rEq := by
  intro pins s σ H x y v u Q I rx ry h
  obtain ⟨hs, q⟩ := h
  cases x with
  | non =>
    cases rx
    cases y with
    | non => cases ry; exact PySem.EqNone.eq_none_none (fin_bl I q (by simp))
    | bl j => cases ry; exact PySem.EqNone.eq_none_bool (fin_bl I q (by simp))
    | int j => obtain ⟨t', rfl⟩ := ry; exact PySem.EqNone.eq_none_int (fin_bl I q (by simp))
    | str j => obtain ⟨t', rfl⟩ := ry; exact PySem.EqNone.eq_none_str (fin_bl I q (by simp))
    | _ => exact absurd (show false = true from hs) Bool.false_ne_true
  | bl i =>
    cases rx
    cases y with
    | non => cases ry; exact PySem.EqNone.eq_bool_none (fin_bl I q (by simp))
    | bl j => cases ry; exact eq_bool (fin_bl I q dec_bl)
    | str j => obtain ⟨t', rfl⟩ := ry; exact PySem.EqMixed.eq_bool_str (fin_bl I q (by simp))
    | _ => exact absurd (show false = true from hs) Bool.false_ne_true
  | int i =>
    obtain ⟨t, rfl⟩ := rx
    cases y with
    | non => cases ry; exact PySem.EqNone.eq_int_none (fin_bl I q (by simp))
    | int j => obtain ⟨t', rfl⟩ := ry; exact eq_int (fin_bl I q dec_int)
    | str j => obtain ⟨t', rfl⟩ := ry; exact PySem.EqMixed.eq_int_str (fin_bl I q (by simp))
    | _ => exact absurd (show false = true from hs) Bool.false_ne_true
  | str i =>
    obtain ⟨t, rfl⟩ := rx
    cases y with
    | non => cases ry; exact PySem.EqNone.eq_str_none (fin_bl I q (by simp))
    | bl j => cases ry; exact PySem.EqMixed.eq_str_bool (fin_bl I q (by simp))
    | int j => obtain ⟨t', rfl⟩ := ry; exact PySem.EqMixed.eq_str_int (fin_bl I q (by simp))
    | str j => obtain ⟨t', rfl⟩ := ry; exact eq_str (fin_bl I q dec_str)
    | _ => exact absurd (show false = true from hs) Bool.false_ne_true
  | byt i =>
    obtain ⟨t, rfl⟩ := rx
    cases y with
    | byt j => obtain ⟨t', rfl⟩ := ry; exact PySem.W.eq_bytes (fin_bl I q dec_byt)
    | _ => exact absurd (show false = true from hs) Bool.false_ne_true
  | _ => cases y <;> exact absurd (show false = true from hs) Bool.false_ne_true
theorem op_ne : OpR X (compareOp .NotEq) rNe := by
  intro pins s σ H x y v u Q I rx ry h
  obtain ⟨hs, q⟩ := h
  cases x with
  | non =>
    cases rx
    cases y with
    | non => cases ry; exact PySem.EqNone.ne_none_none (fin_bl I q (by simp))
    | bl j => cases ry; exact PySem.EqNone.ne_none_bool (fin_bl I q (by simp))
    | int j => obtain ⟨t', rfl⟩ := ry; exact PySem.EqNone.ne_none_int (fin_bl I q (by simp))
    | str j => obtain ⟨t', rfl⟩ := ry; exact PySem.EqNone.ne_none_str (fin_bl I q (by simp))
    | _ => exact absurd (show false = true from hs) Bool.false_ne_true
  | bl i =>
    cases rx
    cases y with
    | non => cases ry; exact PySem.EqNone.ne_bool_none (fin_bl I q (by simp))
    | bl j => cases ry; exact ne_bool (fin_bl I q (congrArg not dec_bl))
    | str j => obtain ⟨t', rfl⟩ := ry; exact PySem.EqMixed.ne_bool_str (fin_bl I q (by simp))
    | _ => exact absurd (show false = true from hs) Bool.false_ne_true
  | int i =>
    obtain ⟨t, rfl⟩ := rx
    cases y with
    | non => cases ry; exact PySem.EqNone.ne_int_none (fin_bl I q (by simp))
    | int j => obtain ⟨t', rfl⟩ := ry; exact ne_int (fin_bl I q (congrArg not dec_int))
    | str j => obtain ⟨t', rfl⟩ := ry; exact PySem.EqMixed.ne_int_str (fin_bl I q (by simp))
    | _ => exact absurd (show false = true from hs) Bool.false_ne_true
  | str i =>
    obtain ⟨t, rfl⟩ := rx
    cases y with
    | non => cases ry; exact PySem.EqNone.ne_str_none (fin_bl I q (by simp))
    | bl j => cases ry; exact PySem.EqMixed.ne_str_bool (fin_bl I q (by simp))
    | int j => obtain ⟨t', rfl⟩ := ry; exact PySem.EqMixed.ne_str_int (fin_bl I q (by simp))
    | str j => obtain ⟨t', rfl⟩ := ry; exact ne_str (fin_bl I q (congrArg not dec_str))
    | _ => exact absurd (show false = true from hs) Bool.false_ne_true
  | byt i =>
    obtain ⟨t, rfl⟩ := rx
    cases y with
    | byt j => obtain ⟨t', rfl⟩ := ry; exact PySem.W.ne_bytes (fin_bl I q (congrArg not dec_byt))
    | _ => exact absurd (show false = true from hs) Bool.false_ne_true
  | _ => cases y <;> exact absurd (show false = true from hs) Bool.false_ne_true

theorem op_lt : OpR X (compareOp .Lt) (rI0 fun i j => .bl (decide (i < j))) := opB0 fun _ _ _ _ _ _ _ q => lt_int q
theorem op_le : OpR X (compareOp .LtE) (rI0 fun i j => .bl (decide (i ≤ j))) := opB0 fun _ _ _ _ _ _ _ q => le_int q
theorem op_gt : OpR X (compareOp .Gt) (rI0 fun i j => .bl (decide (j < i))) := opB0 fun _ _ _ _ _ _ _ q => gt_int q
/-- is None, is not None: the right side a value none -/
theorem op_isN : OpR X (compareOp .Is) (fun x y H Q => y = .non ∧ Q (.bl (decide (x = .non))) H) := by
  intro pins s σ H x y v u Q I rx ry h
  obtain ⟨rfl, q⟩ := h
  cases ry
  refine is_none_gen (fin_bl I q ?_)
  cases x <;> first
    | (cases rx; rfl)
    | (obtain ⟨t, rfl⟩ := rx; rfl)
theorem op_notN : OpR X (compareOp .IsNot) (fun x y H Q => y = .non ∧ Q (.bl (!decide (x = .non))) H) := by
  intro pins s σ H x y v u Q I rx ry h
  obtain ⟨rfl, q⟩ := h
  cases ry
  refine isnot_none_gen (fin_bl I q ?_)
  cases x <;> first
    | (cases rx; rfl)
    | (obtain ⟨t, rfl⟩ := rx; rfl)

/-- is, is not of two objects that are tracked lists or instances -/
def isObj : HO → Bool
  | .lst _ => true
  | .ins _ _ _ => true
  | _ => false
theorem nomark (b : Expr) {op : CmpOp} (h : op ≠ .In := by decide) (h2 : op ≠ .NotIn := by decide) : behindInMarks op b = false := by
  have e1 : (op == CmpOp.In) = false := by cases op <;> first | rfl | exact absurd rfl h
  have e2 : (op == CmpOp.NotIn) = false := by cases op <;> first | rfl | exact absurd rfl h2
  cases b <;> simp [behindInMarks, e1, e2]
/-- a comparison as a value; hm: nomark b, or (for in, not in) by with_unfolding_all rfl -/
theorem pe_cmpR {op : CmpOp} {r : R2} (ho : OpR X (compareOp op) r) (ha : PE X a ta) (hb : PE X b tb) (hm : behindInMarks op b = false) : PE X (.Compare a [op] [b] pos) (tOp r ta tb) := by
  intro pins s σ H Q I h
  exact wpAny_Compare1 (binT ha hb I h fun v u s2 x y H2 I2 rx ry q => ho pins s2 σ H2 x y v u Q I2 rx ry q) hm
/-- a reading of a value as a test -/
def tTest (t : TE) : TT := fun σ H Q => t σ H fun x H' => ∃ k, x = .bl k ∧ Q k H'
theorem pt_cmpR {op : CmpOp} {r : R2} (ho : OpR X (compareOp op) r) (ha : PE X a ta) (hb : PE X b tb) (hm : behindInMarks op b = false) : PT X (.Compare a [op] [b] pos) (tTest (tOp r ta tb)) := by
  intro pins s σ H Q I h
  refine wpAny_isTrue_Compare1 (thn (ha pins s σ H _ I h) fun v s1 ⟨x, H1, I1, r1, q1⟩ => thn (hb pins s1 σ H1 _ I1 q1) fun u s2 ⟨y, H2, I2, r2, q2⟩ =>
    thn (ho pins s2 σ H2 x y v u _ I2 r1 r2 q2) fun c s3 ⟨z, H3, I3, r3, k, e, q3⟩ => ?_) hm
  subst e
  cases r3
  exact wpAny_truthy_bool ⟨H3, I3, q3⟩
/-- a op1 b op2 c -/
def tChain (r r' : R2) (ta tb tc : TE) : TE := fun σ H Q => ta σ H fun x H1 => tb σ H1 fun y H2 => r x y H2 fun z H3 => ∃ k, z = .bl k ∧
  (if k = true then tc σ H3 fun w' H4 => r' y w' H4 Q else Q (.bl false) H3)
/-! ### truth -/
/-- a value's truth by the abstract heap -/
def TruV (K : PySem.W.Frag) (x : V) (H : Hp) (k : Bool) : Prop :=
  match x with
  | .non => k = false
  | .bl b => k = b
  | .int i => k = (i != 0)
  | .str y => y.length ≤ sizeLine ∧ k = ((y.length : Int) != 0)
  | .byt y => y.size ≤ sizeLine ∧ k = ((y.size : Int) != 0)
  | .ref p => (∃ xs, SqL K H p xs ∧ k = !xs.isEmpty) ∨ (∃ xs, SqT K H p xs ∧ k = !xs.isEmpty) ∨ ∃ kvs, H p = some (.dK kvs) ∧ k = !kvs.isEmpty
  | _ => False
theorem line63 : (sizeLine : Nat) < 2 ^ 63 := by rw [sizeLine_eq]; decide
/-! ### strs and bytes -/
theorem op_add_str : OpR X (binaryOp .Add) (fun x y H Q => ∃ i j, x = .str i ∧ y = .str j ∧ i.length + j.length ≤ sizeLine ∧ Q (.str (i ++ j)) H) := by
  intro pins s σ H x y v u Q I rx ry h
  obtain ⟨i, j, rfl, rfl, hz, q⟩ := h
  obtain ⟨t, rfl⟩ := rx
  obtain ⟨t', rfl⟩ := ry
  exact add_str (fun t' tk => ⟨.str (i ++ j), H, I.tok _, ⟨_, rfl⟩, q⟩) hz
def PlainIxT (b : Expr) : Prop := ∀ o i, subscripted b false o i = operate [o, i] (getItem o i)
/-! ### scalar builtins, by CallR -/
theorem vals1 {x : V} {us : List Value} (r : Vals [x] us) : ∃ u, us = [u] ∧ RelV x u := by
  cases r with
  | cons r1 r2 => cases r2; exact ⟨_, rfl, r1⟩
theorem vals2 {x y : V} {us : List Value} (r : Vals [x, y] us) : ∃ u w', us = [u, w'] ∧ RelV x u ∧ RelV y w' := by
  cases r with
  | cons r1 r2 =>
    cases r2 with
    | cons r3 r4 => cases r4; exact ⟨_, _, rfl, r1, r3⟩
theorem call_abs : CallR X (.builtin "abs") (fun xs H Q => ∃ i, xs = [.int i] ∧ Q (.int (if i < 0 then -i else i)) H) := by
  intro pins s σ H xs us Q I r h
  obtain ⟨i, rfl, q⟩ := h
  obtain ⟨u, rfl, t, rfl⟩ := vals1 r
  exact call_abs_int fun u tk => ⟨.int (if i < 0 then -i else i), H, I.tok _, ⟨_, rfl⟩, q⟩
theorem call_max2 (hc : X.calm = true) : CallR X (.builtin "max") (fun xs H Q => ∃ i j, xs = [.int i, .int j] ∧ Q (.int (if j > i then j else i)) H) := by
  intro pins s σ H xs us Q I r h
  obtain ⟨i, j, rfl, q⟩ := h
  obtain ⟨u, w', rfl, ⟨t, rfl⟩, ⟨t', rfl⟩⟩ := vals2 r
  refine max_two_ints (I.ok.hd hc) fun h' tk k => ⟨_, H, I.kept k, ?_, q⟩
  by_cases hj : j > i
  · rw [if_pos hj, if_pos hj]; exact ⟨_, rfl⟩
  · rw [if_neg hj, if_neg hj]; exact ⟨_, rfl⟩
theorem call_min2 (hc : X.calm = true) : CallR X (.builtin "min") (fun xs H Q => ∃ i j, xs = [.int i, .int j] ∧ Q (.int (if j < i then j else i)) H) := by
  intro pins s σ H xs us Q I r h
  obtain ⟨i, j, rfl, q⟩ := h
  obtain ⟨u, w', rfl, ⟨t, rfl⟩, ⟨t', rfl⟩⟩ := vals2 r
  refine min_two_ints (I.ok.hd hc) fun h' tk k => ⟨_, H, I.kept k, ?_, q⟩
  by_cases hj : j < i
  · rw [if_pos hj, if_pos hj]; exact ⟨_, rfl⟩
  · rw [if_neg hj, if_neg hj]; exact ⟨_, rfl⟩
theorem call_int1 : CallR X (.type "int") (fun xs H Q => (∃ i, xs = [.int i] ∧ Q (.int i) H) ∨ ∃ k, xs = [.bl k] ∧ Q (.int (if k then 1 else 0)) H) := by
  intro pins s σ H xs us Q I r h
  rcases h with ⟨i, rfl, q⟩ | ⟨k, rfl, q⟩
  · obtain ⟨u, rfl, t, rfl⟩ := vals1 r
    exact call_int_int ⟨.int i, H, I, ⟨_, rfl⟩, q⟩
  · obtain ⟨u, rfl, r1⟩ := vals1 r
    cases r1
    exact call_int_bool ⟨.int (if k then 1 else 0), H, I.tok _, ⟨_, rfl⟩, q⟩
/-- len of a str, a bytes, a list, a tuple -/
def LenV (K : PySem.W.Frag) (x : V) (H : Hp) (n : Nat) : Prop :=
  match x with
  | .str y => y.length ≤ sizeLine ∧ n = y.length
  | .byt y => y.size ≤ sizeLine ∧ n = y.size
  | .ref p => (∃ xs, SqL K H p xs ∧ n = xs.length) ∨ ∃ xs, SqT K H p xs ∧ n = xs.length
  | _ => False
end
end L2

namespace L2
open PySem PySem.Spec PyProof.Rows

/-! ### an instance, its attributes a map -/
structure ObjM (h : Heap) (x dx C : Addr) (mA : Str → Option Value) : Prop where
  obj : h.get? x = some (PySem.W.instObj C dx)
  ns : h.Ns1 dx mA
  ne : dx ≠ x

section
variable {prog : Program} {w : World} {A : Around} {E : Value → Shared → Prop} {s : Shared} {K : PySem.W.Frag} {x dx C f : Addr} {mA : Str → Option Value} {name : Str} {v : Value}

end

/-! ### the attributes as a list of pairs -/
def putF (f : Str) (v : V) : List (Str × V) → List (Str × V)
  | [] => [(f, v)]
  | (g, x) :: r => if g = f then (g, v) :: r else (g, x) :: putF f v r
theorem RelO.some_of {v : V} {o : Option Value} (r : RelO (some v) o) : ∃ u, o = some u ∧ RelV v u := by
  cases o with
  | none => exact (show False from r).elim
  | some u => exact ⟨u, rfl, r⟩
section
variable {P : Program} {w : World} {H H' : Hp} {h h' : Heap} {a C dx : Addr} {fs fs' : List (Str × V)}
end

/-! ### what of the text a class must have -/
structure Cls (K : PySem.W.Frag) (C : Addr) : Prop where
  pg : PySem.W.plainGet K C Str.empty = true
  hd : PySem.W.hasDictIn K C = true
  po : PySem.W.plainOver K C = true
  sa : PySem.W.findIn K (.ref C) "__setattr__" = some (some (.builtin "object.__setattr__"))
/-- no class of it has the name -/
def NoAttr (K : PySem.W.Frag) (C : Addr) (f : Str) : Prop := PySem.W.findIn K (.ref C) f = some none
/-- a constant of the class -/
structure Con (K : PySem.W.Frag) (C : Addr) (f : Str) (v : V) (u : Value) : Prop where
  at_ : PySem.W.findIn K (.ref C) f = some (some u)
  rel : RelV v u
  get : PySem.W.specialIn K u "__get__" = some none
  cp : PySem.W.copiedNames.contains f = false
/-- a method: a plain def of the class or of one above it -/
structure Meth (K : PySem.W.Frag) (C : Addr) (m : Str) (f : Addr) : Prop where
  at_ : PySem.W.findIn K (.ref C) m = some (some (.ref f))
  fn : PySem.W.isFn K (.ref f) = true
  kp : PySem.W.keepIn K (.ref f) = true

section
variable {X : Cx} {pins : List (Addr × Obj)} {σ : St} {H : Hp} {s : Shared} {a C dx : Addr} {fs : List (Str × V)} {f : Str} {v : V} {A : Around} {E : Value → Shared → Prop}

end

/-! ### readings and rules -/
/-- e.f, an attribute of the instance -/
def tFld (K : PySem.W.Frag) (ta : TE) (f : Str) : TE := fun σ H Q => ta σ H fun x H1 => ∃ a C dx fs v, x = .ref a ∧ H1 a = some (.ins C dx fs) ∧ Cls K C ∧ NoAttr K C f ∧ fs.lookup f = some v ∧ Q v H1
/-- e.f, a constant of the class -/
def tCon (K : PySem.W.Frag) (ta : TE) (f : Str) : TE := fun σ H Q => ta σ H fun x H1 => ∃ a C dx fs v u, x = .ref a ∧ H1 a = some (.ins C dx fs) ∧ Cls K C ∧ Con K C f v u ∧ fs.lookup f = none ∧ Q v H1
/-- e.f = value -/
def sFld (K : PySem.W.Frag) (ta tv : TE) (f : Str) : TS := fun D σ H => tv σ H fun y H1 => ta σ H1 fun x H2 => ∃ a C dx fs, x = .ref a ∧ H2 a = some (.ins C dx fs) ∧ Cls K C ∧ NoAttr K C f ∧ fs.length < 1000 ∧
  D.nx σ (upd H2 a (.ins C dx (putF f y fs)))
/-- an augmented operator on two values -/
def InOp (X : Cx) (op : Operator) (rd : V → V → Hp → VK → Prop) : Prop :=
  ∀ (pins : List (Addr × Obj)) (s : Shared) (σ : St) (H : Hp) (x y : V) (u v : Value) (Q : VK), Inv X pins σ H s → RelV x u → RelV y v → rd x y H Q → wpAny (model X.prog X.w) X.A (inplaceOp op u v) (EP X pins σ Q) X.xe s
/-- e.f op= value -/
def sFldAug (K : PySem.W.Frag) (ta tv : TE) (rd : V → V → Hp → VK → Prop) (f : Str) : TS := fun D σ H => ta σ H fun x H1 => ∃ a C dx fs v, x = .ref a ∧ H1 a = some (.ins C dx fs) ∧ Cls K C ∧ NoAttr K C f ∧ fs.lookup f = some v ∧
  tv σ H1 fun y H2 => rd v y H2 fun z H3 => ∃ dx' fs', H3 a = some (.ins C dx' fs') ∧ fs'.length < 1000 ∧ D.nx σ (upd H3 a (.ins C dx' (putF f z fs')))

section
variable {X : Cx} {o e value : Expr} {f : Str} {pos pos' tpos : Pos} {ta tv : TE}
def rAdd : V → V → Hp → VK → Prop := fun x y H Q => ∃ i j, x = .int i ∧ y = .int j ∧ Q (.int (i + j)) H
def rSub : V → V → Hp → VK → Prop := fun x y H Q => ∃ i j, x = .int i ∧ y = .int j ∧ Q (.int (i - j)) H
end

/-! ### isinstance -/
section
variable {X : Cx} {pins : List (Addr × Obj)} {σ : St} {H : Hp} {s : Shared} {A : Around} {E : Value → Shared → Prop} {Q : Value → Shared → Prop} {c : Value} {b : Bool}
/-- the type of a value, as the fragment's deciders take it; for an instance its class -/
inductive TyOf (K : PySem.W.Frag) (H : Hp) : V → Value → Prop where
  | non : TyOf K H .non (.type "NoneType")
  | bl (x : Bool) : TyOf K H (.bl x) (.type "bool")
  | int (i : Int) : TyOf K H (.int i) (.type "int")
  | str (x : Str) : TyOf K H (.str x) (.type "str")
  | flt (x : UInt64) : TyOf K H (.flt x) (.type "float")
  | lst {a : Addr} {xs : List V} (e : H a = some (.lst xs)) : TyOf K H (.ref a) (.type "list")
  | frz {a : Addr} {o : Obj} {xs : List V} (e : H a = some (.frz o (.lst xs))) : TyOf K H (.ref a) (.type "list")
  | tup {a : Addr} {xs : List V} (e : H a = some (.tup xs)) : TyOf K H (.ref a) (.type "tuple")
  | dK {a : Addr} {kvs : List (Key × V)} (e : H a = some (.dK kvs)) : TyOf K H (.ref a) (.type "dict")
  | dT {a : Addr} {kvs : List (List Key × V)} (e : H a = some (.dT kvs)) : TyOf K H (.ref a) (.type "dict")
  | ins {a C dx : Addr} {fs : List (Str × V)} (e : H a = some (.ins C dx fs)) (cl : Cls K C) (ha : PySem.W.findIn K (.ref C) "__class__" = some (some (.builtin "object.__class__")))
      (hn : PySem.W.specialIn K (.builtin "object.__class__") "__get__" = some (some (.builtin "getset_descriptor.__get__"))) (htk : PySem.W.takesIn K (.builtin "object.__class__") = some true)
      (hm : PySem.W.mroIn K C (.type "object") = some true) : TyOf K H (.ref a) (.ref C)
end
end L2

namespace L2
open PySem PySem.Spec PyProof.Rows

/-! ### room -/
structure Room (k : Nat) (A : Around) : Prop where
  hd : A.handled = none
  dp : A.depth + 3 * k + 5 < recursionLimit
  un : A.units + 16 * k + 200 < cLine
theorem Room.mono {j k : Nat} {A : Around} (r : Room k A) (h : j ≤ k) : Room j A := ⟨r.hd, by have := r.dp; omega, by have := r.un; omega⟩
theorem Room.deeper {k : Nat} {A : Around} (r : Room (k + 1) A) (env : Env) : Room k (A.deeper env) :=
  ⟨r.hd, by have := r.dp; show A.depth + 1 + 3 * k + 5 < _; omega, by have := r.un; show A.units + 3 + 16 * k + 200 < _; omega⟩
theorem Room.depth {k : Nat} {A : Around} (r : Room k A) : A.depth < recursionLimit := by have := r.dp; omega
theorem Room.units {k : Nat} {A : Around} (r : Room k A) : A.units + 64 < cLine := by have := r.un; omega
/-! ### argument lists and displays -/
def tNil : TA := fun _ H Q => Q [] H
def tCons (ta : TE) (tr : TA) : TA := fun σ H Q => ta σ H fun x H1 => tr σ H1 fun xs H2 => Q (x :: xs) H2
section
variable {X : Cx} {e : Expr} {es : List Expr} {te : TE} {t : TA} {pos : Pos}
theorem pa_nil : PA X [] tNil := fun _ _ _ _ H Q I h => Calls.spliced_nil ⟨[], H, I, .nil, h⟩
theorem pa_cons (ha : PE X e te) (hr : PA X es t) (hs : starEach (e :: es) X.env = (false, eval e X.env) :: starEach es X.env := by rfl) : PA X (e :: es) (tCons te t) := by
  intro pos pins s σ H Q I h
  rw [hs]
  show wpAny _ _ (spliced ((false, eval e X.env) :: backTo pos (starEach es X.env))) _ _ s
  refine Calls.spliced_cons (thn (ha pins s σ H _ I h) fun u s1 ⟨x, H1, I1, r1, q1⟩ => ?_)
  exact thn (hr pos pins s1 σ H1 _ I1 q1) fun us s2 ⟨xs, H2, I2, r2, q2⟩ => ⟨x :: xs, H2, I2, .cons r1 r2, q2⟩

/-- a tuple, a list of written items -/
def tTup (t : TA) : TE := fun σ H Q => t σ H fun xs H1 => xs.length ≤ sizeLine ∧ ∀ p, H1 p = none → Q (.ref p) (upd H1 p (.tup xs))
def tLst (t : TA) : TE := fun σ H Q => t σ H fun xs H1 => xs.length ≤ sizeLine ∧ ∀ p, H1 p = none → Q (.ref p) (upd H1 p (.lst xs))
theorem pe_tup {x1} (h : PA X es t) : PE X (.Tuple es x1 pos) (tTup t) := by
  intro pins s σ H Q I hq
  refine wpAny_Tuple_spliced (thn (h pos pins s σ H _ I hq) fun us s1 ⟨xs, H1, I1, r, z, q⟩ => ⟨by rw [← r.length]; exact z, ?_⟩)
  have hf : H1 s1.heap.objs.size = none := I1.hok.fresh (Nat.le_refl _)
  refine ⟨.ref s1.heap.objs.size, upd H1 s1.heap.objs.size (.tup xs), I1.laid (t' := s1.toks) (fun b u e => Heap.get?_push_of_some _ e) (Nat.le_refl _) ?_, rfl, q _ hf⟩
  exact ⟨z, us, r, ⟨_, Heap.get?_push_size _ rfl, rfl, _, rfl⟩⟩
theorem pe_lst (h : PA X es t) : PE X (.List es pos) (tLst t) := by
  intro pins s σ H Q I hq
  refine wpAny_List_spliced (thn (h pos pins s σ H _ I hq) fun us s1 ⟨xs, H1, I1, r, z, q⟩ => ⟨by rw [← r.length]; exact z, ?_⟩)
  have hf : H1 s1.heap.objs.size = none := I1.hok.fresh (Nat.le_refl _)
  refine ⟨.ref s1.heap.objs.size, upd H1 s1.heap.objs.size (.lst xs), I1.laid (t' := s1.toks) (fun b u e => Heap.get?_push_of_some _ e) (Nat.le_refl _) ?_, rfl, q _ hf⟩
  exact ⟨z, us, 0, r, Heap.get?_push_size _ rfl⟩
end

/-! ### what a def promises -/
/-- a def's promise: the bound arguments in the parameters' order, the heap, the wanted end, the wanted exception -/
abbrev Sp := List V → Hp → VK → XK → Prop
/-- how an exception lies behind a call (file 08 gives it): the callers' frames, abstract heap and state ahead of the call, the wish, the exception, the state -/
abbrev CXT := List Env → Hp → Shared → XK → Value → Shared → Prop

/-- the state at a call -/
structure Env0 (P : Program) (w : World) (K : PySem.W.Frag) (mg : Str → Option Value) (base : Heap) (A : Around) (outer : List Env) (s : Shared) (H : Hp) : Prop where
  frames : A.frames = some outer
  mod : Mod K mg base
  bs : ∀ b o, base.get? b = some o → s.heap.get? b = some o ∧ H b = none
  bsz : base.objs.size ≤ s.heap.objs.size
  funs : s.heap.FunFrames base outer
  frf : ∀ b ∈ frs outer, H b = none
  hok : HOk P w H s.heap
  bare : AllBare s.gens
/-- a call's end -/
def CE (outer : List Env) (P : Program) (w : World) (H : Hp) (s : Shared) (Q : VK) (u : Value) (s' : Shared) : Prop :=
  ∃ v H', s'.os = s.os ∧ AllBare s'.gens ∧ Un (frs outer) [] H H' s.heap s'.heap ∧ HOk P w H' s'.heap ∧ RelV v u ∧ Q v H'
def CR (CX : CXT) (outer : List Env) (P : Program) (w : World) (H : Hp) (s : Shared) (Q : VK) (E : XK) (r : Result) (s' : Shared) : Prop :=
  match r with
  | .ok (.ret u) => CE outer P w H s Q u s'
  | .ok _ => False
  | .error e => CX outer H s E e s'
structure FnOk (P : Program) (w : World) (K : PySem.W.Frag) (mg : Str → Option Value) (base : Heap) (CX : CXT) (k : Nat) (f : Addr) (fd : FuncData) (ps : List Str) (sp : Sp) : Prop where
  len : ∀ vs H Q E, sp vs H Q E → vs.length = ps.length
  run : ∀ (A : Around) (outer : List Env) (s : Shared) (H : Hp) (args : Args) (us : List Value) (vs : List V) (Q : VK) (E : XK), Room k A → Env0 P w K mg base A outer s H → BindsTo s fd args (ps.zip us) → Vals vs us → sp vs H Q E →
    codeAny (model P w) A (.call (.ref f) args) (CR CX outer P w H s Q E) s
theorem FnOk.mono {P : Program} {w : World} {K : PySem.W.Frag} {mg : Str → Option Value} {base : Heap} {CX : CXT} {j k : Nat} {f : Addr} {fd : FuncData} {ps : List Str} {sp : Sp} (F : FnOk P w K mg base CX j f fd ps sp) (h : j ≤ k) :
    FnOk P w K mg base CX k f fd ps sp := ⟨F.len, fun A outer s H args us vs Q E hr => F.run A outer s H args us vs Q E (hr.mono h)⟩
section
variable {X : Cx} {pins : List (Addr × Obj)} {σ : St} {H : Hp} {s s' : Shared}
/-- from a body: what a callee wants -/
theorem Inv.env0 (I : Inv X pins σ H s) : Env0 X.prog X.w X.K X.mg X.base X.A X.stack s H :=
  ⟨I.ok.frames, I.ok.mod, I.bs, Nat.le_trans I.ok.bsz I.sz, I.stack, I.stkFree, I.hok, I.bare⟩
/-- behind a call -/
theorem Inv.after {Q : VK} {u : Value} (I : Inv X pins σ H s) (h : CE X.stack X.prog X.w H s Q u s') : EP X pins σ Q u s' := by
  obtain ⟨v, H', os, bare, un, hok, r, q⟩ := h
  obtain ⟨hh, g, d, t, os'⟩ := s'
  obtain rfl : os' = s.os := os
  exact ⟨v, H', I.call (h' := hh) (g' := g) (d' := d) (t' := t) (ch := []) un hok bare (fun b z => absurd z (by simp)), r, q⟩
end

/-! ### calls -/
/-- f(..): the written arguments, then the defaults dvs; E: what is wanted of an exception -/
def tCall (sp : Sp) (dvs : List V) (E : XK) (t : TA) : TE := fun σ H Q => t σ H fun vs H1 => sp (vs ++ dvs) H1 Q E
/-- o.m(..) of an instance of the class at C -/
def tMeth (C : Addr) (m : Str) (sp : Sp) (dvs : List V) (E : XK) (ta : TE) (t : TA) : TE := fun σ H Q => ta σ H fun x H1 => ∃ a dx fs, x = .ref a ∧ H1 a = some (.ins C dx fs) ∧ fs.lookup m = none ∧
  t σ H1 fun vs H2 => sp (x :: (vs ++ dvs)) H2 Q E
/-- C(..): a new instance and its dict, then __init__ -/
def tMake (C : Addr) (sp : Sp) (dvs : List V) (E : XK) (t : TA) : TE := fun σ H Q => t σ H fun vs H1 => ∀ x dx, H1 x = none → H1 dx = none → dx ≠ x →
  sp (.ref x :: (vs ++ dvs)) (upd (upd H1 dx (.own x)) x (.ins C dx [])) (fun v H2 => v = .non ∧ Q (.ref x) H2) E

/-- how the parameters are bound: us the positional arguments, kw the keywords' values by name, ds the defaults that fill up -/
def Binds (K : PySem.W.Frag) (fd : FuncData) (ps : List Str) (ds : List Value) : Prop :=
  ∀ (s : Shared) (us : List Value), K.In s.heap → (us ++ ds).length = ps.length → BindsTo s fd ⟨us, []⟩ (ps.zip (us ++ ds))
/-- every parameter is given -/
theorem Binds.all {K : PySem.W.Frag} {fd : FuncData} {ps : List Str} (h : ∀ us : List Value, us.length = ps.length → bindArgs fd ⟨us, []⟩ = pure (ps.zip us)) : Binds K fd ps [] := fun s us _ hl => by
  rw [List.append_nil] at hl ⊢
  exact .of_eq (h us hl)

/-- an exception of a callee reaches what this body wants of exceptions -/
def Passes (CX : CXT) (X : Cx) (E : XK) : Prop := ∀ (pins : List (Addr × Obj)) (σ : St) (H : Hp) (s : Shared) (e : Value) (s' : Shared), Inv X pins σ H s → CX X.stack H s E e s' → X.xe e s'

section
variable {X : Cx} {CX : CXT} {k : Nat} {f C : Addr} {fd : FuncData} {ps : List Str} {sp : Sp} {dvs : List V} {ds : List Value} {E : XK} {x m : Str} {p pos apos : Pos} {e o : Expr} {es : List Expr} {ta : TE} {t : TA}

/-- the callee runs -/
theorem run_fn {pins : List (Addr × Obj)} {σ : St} {H : Hp} {s : Shared} {Q : VK} {us : List Value} {vs : List V} (F : FnOk X.prog X.w X.K X.mg X.base CX k f fd ps sp) (hr : Room k X.A) (hb : Binds X.K fd ps ds) (hd : Vals dvs ds) (hx : Passes CX X E)
    (I : Inv X pins σ H s) (r : Vals vs us) (h : sp (vs ++ dvs) H Q E) : wpAny (model X.prog X.w) X.A (call (.ref f) us) (EP X pins σ Q) X.xe s := by
  have r2 : Vals (vs ++ dvs) (us ++ ds) := r.append hd
  have hl : (us ++ ds).length = ps.length := by rw [← r2.length]; exact F.len _ _ _ _ h
  refine wpAny_call (codeAny_mono (F.run X.A X.stack s H ⟨us, []⟩ (us ++ ds) (vs ++ dvs) Q E hr I.env0 (hb s us I.kIn hl) r2 h) fun r s' hq => ?_)
  cases r with
  | error e => exact hx pins σ H s e s' I hq
  | ok fl =>
    cases fl with
    | ret u => exact I.after hq
    | next => exact False.elim hq
    | brk => exact False.elim hq
    | cont => exact False.elim hq

theorem pe_call (F : FnOk X.prog X.w X.K X.mg X.base CX k f fd ps sp) (hr : Room k X.A) (hg : Gl X x) (hm : X.mg x = some (.ref f)) (hk : PySem.W.keepIn X.K (.ref f) = true) (hb : Binds X.K fd ps ds) (hd : Vals dvs ds) (hx : Passes CX X E)
    (ha : PA X (e :: es) t) (hdb : (x == ("__debug__" : Str)) = false := by decide) (he : starEach (e :: es) X.env = (false, eval e X.env) :: starEach es X.env := by rfl) (hpl : (backTo pos (starEach es X.env)).any (·.1) = false := by rfl) :
    PE X (.Call (.Name x p) (e :: es) [] pos) (tCall sp dvs E t) := by
  intro pins s σ H Q I h
  refine wpAny_Call_Name_kw (ld_glob I hg hm ?_ hdb)
  refine PySem.W.callWith_K (h₀ := X.base) I.ok.mod.kin hk (thn (ha pos pins s σ H _ I h) fun us s1 ⟨vs, H1, I1, r, q⟩ => ⟨I1.kIn, ?_⟩) he hpl
  exact run_fn F hr hb hd hx I1 r q
/-- what a class must have to be made -/
structure Mk (K : PySem.W.Frag) (C f : Addr) : Prop where
  makes : PySem.W.makesIn K C = true
  init : PySem.W.findIn K (.ref C) "__init__" = some (some (.ref f))
  fn : PySem.W.isFn K (.ref f) = true
  kp : PySem.W.keepIn K (.ref C) = true

end

/-! ### keywords -/
/-- the values of the keywords, from the left -/
def PK (X : Cx) (kws : List Keyword) (t : TA) : Prop :=
  ∀ (pos : Pos) (pins : List (Addr × Obj)) (s : Shared) (σ : St) (H : Hp) (Q : List V → Hp → Prop), Inv X pins σ H s → t σ H Q → wpAny (model X.prog X.w) X.A (evalAll ((backToKw pos (keywordEach kws X.env)).map (·.2))) (AP X pins σ Q) X.xe s
section
variable {X : Cx} {CX : CXT} {k : Nat} {f C : Addr} {fd : FuncData} {ps ks : List Str} {sp : Sp} {E : XK} {x m : Str} {p pos apos kpos : Pos} {e o : Expr} {es : List Expr} {kws : List Keyword} {te ta : TE} {t tk : TA} {nm : Option Str}
/-- how a call with keywords binds: g puts the positional values us and the keywords' values ws (names ks) in the parameters' order, defaults among them -/
structure KBinds (K : PySem.W.Frag) (fd : FuncData) (ps ks : List Str) (g : List Value → List Value → List Value) (gV : List V → List V → List V) : Prop where
  to : ∀ (s : Shared) (us ws : List Value), K.In s.heap → (g us ws).length = ps.length → BindsTo s fd ⟨us, ks.zip ws⟩ (ps.zip (g us ws))
  rel : ∀ {vs : List V} {us : List Value} {zs : List V} {ws : List Value}, Vals vs us → Vals zs ws → Vals (gV vs zs) (g us ws)
def tCallK (sp : Sp) (gV : List V → List V → List V) (E : XK) (t tk : TA) : TE := fun σ H Q => t σ H fun vs H1 => tk σ H1 fun zs H2 => sp (gV vs zs) H2 Q E
variable {g : List Value → List Value → List Value} {gV : List V → List V → List V}
end

/-! ### a def's body keeps its promise -/
/-- names: the parameters first -/
structure FnScope (N P : List Str) (sc : Scope) : Prop where
  kind : sc.kind = .function
  co : sc.isCoroutine = false
  gen : sc.isGenerator = false
  nd : N.Nodup
  pre : N.take P.length = P
  par : ∀ x ∈ P, sc.names.lookup x = some .local ∨ sc.names.lookup x = some .cell
  nofree : ∀ y ∈ sc.names, y.2 ≠ .free

theorem bindL_out {kindOf : Str → Option NameKind} {x : Str} : ∀ {binds : List (Str × Value)} {m : Str → Option Value}, (∀ v, (x, v) ∉ binds) → bindL kindOf binds m x = m x
  | [], _, _ => rfl
  | (n, v) :: r, m, h => by
    unfold bindL
    rw [bindL_out fun w hw => h w (List.mem_cons_of_mem _ hw)]
    split
    · have : x ≠ n := by rintro rfl; exact h v List.mem_cons_self
      simp [this]
    · rfl
theorem bindC_out {kindOf : Str → Option NameKind} {x : Str} : ∀ {binds : List (Str × Value)} {m : Str → Option Value}, (∀ v, (x, v) ∉ binds) → bindC kindOf binds m x = m x
  | [], _, _ => rfl
  | (n, v) :: r, m, h => by
    unfold bindC
    rw [bindC_out fun w hw => h w (List.mem_cons_of_mem _ hw)]
    split
    · rfl
    · have : x ≠ n := by rintro rfl; exact h v List.mem_cons_self
      simp [this]
theorem bindL_get {kindOf : Str → Option NameKind} {x : Str} {v : Value} : ∀ {P : List Str} {vs : List Value} {i : Nat} {m : Str → Option Value}, P.Nodup → P[i]? = some x → vs[i]? = some v → kindOf x = some .local →
    bindL kindOf (P.zip vs) m x = some v
  | [], _, _, _, _, h, _, _ => by simp at h
  | _ :: _, [], _, _, _, _, h, _ => by simp at h
  | p :: P, w :: vs, 0, m, nd, h1, h2, hk => by
    simp at h1 h2; subst h1; subst h2
    show bindL kindOf ((p, w) :: P.zip vs) m p = _
    unfold bindL
    rw [bindL_out fun v hv => (List.nodup_cons.mp nd).1 (List.of_mem_zip hv).1, if_pos hk]
    simp
  | p :: P, w :: vs, i + 1, m, nd, h1, h2, hk => by
    show bindL kindOf ((p, w) :: P.zip vs) m x = _
    unfold bindL
    exact bindL_get (i := i) (List.nodup_cons.mp nd).2 (by simpa using h1) (by simpa using h2) hk
theorem bindC_get {kindOf : Str → Option NameKind} {x : Str} {v : Value} : ∀ {P : List Str} {vs : List Value} {i : Nat} {m : Str → Option Value}, P.Nodup → P[i]? = some x → vs[i]? = some v → kindOf x ≠ some .local →
    bindC kindOf (P.zip vs) m x = some v
  | [], _, _, _, _, h, _, _ => by simp at h
  | _ :: _, [], _, _, _, _, h, _ => by simp at h
  | p :: P, w :: vs, 0, m, nd, h1, h2, hk => by
    simp at h1 h2; subst h1; subst h2
    show bindC kindOf ((p, w) :: P.zip vs) m p = _
    unfold bindC
    rw [bindC_out fun v hv => (List.nodup_cons.mp nd).1 (List.of_mem_zip hv).1, if_neg hk]
    simp
  | p :: P, w :: vs, i + 1, m, nd, h1, h2, hk => by
    show bindC kindOf ((p, w) :: P.zip vs) m x = _
    unfold bindC
    exact bindC_get (i := i) (List.nodup_cons.mp nd).2 (by simpa using h1) (by simpa using h2) hk

/-- the names' values at the entry -/
def start (N : List Str) (vs : List V) : St := vs.map some ++ List.replicate (N.length - vs.length) none

/-- the context of a def's body, at its entry; an exception leaves the frame, then lies as CX says -/
def cxOf (CX : CXT) (P : Program) (w : World) (K : PySem.W.Frag) (mg : Str → Option Value) (base : Heap) (N : List Str) (qual : Str) (scope : Scope) (f : Addr) (cd : Value) (A : Around) (outer : List Env) (s : Shared) (H : Hp) (E : XK) : Cx where
  prog := P
  w := w
  K := K
  mg := mg
  base := base
  A := A.deeper (envOfC qual scope s.heap.objs.size f cd)
  N := N
  s₀ := s
  H₀ := H
  env := envOfC qual scope s.heap.objs.size f cd
  outer := outer
  stack := envOfC qual scope s.heap.objs.size f cd :: outer
  ex := []
  calm := true
  fn := fun _ => true
  pn := []
  xe := fun e s' => wpAny (model P w) (A.deeper (envOfC qual scope s.heap.objs.size f cd)) (leaving (envOfC qual scope s.heap.objs.size f cd) e) (fun _ s'' => CX outer H s E e s'') (fun e' s'' => CX outer H s E e' s'') s'

theorem cell_has {sc : Scope} {n : Nat} {x : Str} (h : sc.names.lookup x = some .cell) : ∃ c, (cellsFrom n sc.names []).lookup x = some c := by
  have q := PySem.W.cellsFrom_some sc.names n [] (.inl h)
  exact Option.isSome_iff_exists.mp q

theorem inv_start {CX : CXT} {P : Program} {w : World} {K : PySem.W.Frag} {mg : Str → Option Value} {base : Heap} {N ps : List Str} {qual : Str} {scope : Scope} {f : Addr} {cd : Value} {A : Around} {outer : List Env} {s s1 : Shared} {H : Hp} {E : XK} {us : List Value} {vs : List V}
    (S : FnScope N ps scope) (hd : A.handled = none) (e0 : Env0 P w K mg base A outer s H) (hl : vs.length = ps.length) (r : Vals vs us)
    (x : InCallC s s.heap.objs.size (bindL (envOfC qual scope s.heap.objs.size f cd).kindOf (ps.zip us) fun _ => none) (cellsFrom (s.heap.objs.size + 1) scope.names []) (bindC (envOfC qual scope s.heap.objs.size f cd).kindOf (ps.zip us) fun _ => none) s1) :
    Inv (cxOf CX P w K mg base N qual scope f cd A outer s H E) [] (start N vs) H s1 := by
  have hpl : ps.length ≤ N.length := by have := congrArg List.length S.pre; rw [List.length_take] at this; omega
  obtain ⟨h1, tk, rfl, hk⟩ := x.done
  have noA : ∀ b : Addr, b ∉ (cxOf CX P w K mg base N qual scope f cd A outer s H E).ex := fun b z => absurd (show b ∈ ([] : List Addr) from z) (by simp)
  refine ⟨⟨e0.mod, S.kind, rfl, rfl, Nat.le_refl _, fun y z c h1 h2 => ?_, fun y hy => ?_, fun y c _ h => ?_, fun _ => hd, Around.frames_deeper e0.frames, .inr ⟨rfl, rfl⟩, fun b z => absurd z (noA b), e0.bs, e0.bsz, fun b _ _ => noA b, fun b z => absurd z (noA b), e0.funs, e0.frf⟩,
    rfl, e0.bare, Un.kept hk, ⟨_, x.toInCall.ns, fun i y v h1 h2 h3 => ?_⟩, fun y c h => ⟨_, x.cell y c h⟩, e0.hok.fresh (Nat.le_refl _), fun y c h => ?_, fun p hp => absurd (show p ∈ ([] : List (Addr × Obj)) from hp) (by simp), e0.hok.kept hk, ?_⟩
  · exact name_of_addr x.apart (PySem.mem_of_lookup h1) (PySem.mem_of_lookup h2)
  · have hy : scope.names.lookup y = some .cell ∨ scope.names.lookup y = some .free := hy
    rcases hy with hy | hy
    · exact cell_has hy
    · exact absurd rfl (S.nofree _ (PySem.mem_of_lookup hy))
  · exact Nat.le_of_lt (x.above y c (PySem.mem_of_lookup h))
  · have hi : i < vs.length := by
      unfold start at h2
      by_cases hi : i < vs.length
      · exact hi
      · rw [List.getElem?_append_right (by simpa using hi)] at h2
        rw [List.getElem?_replicate] at h2
        split at h2 <;> cases h2
    have ha : vs[i]? = some v := by
      unfold start at h2
      rw [List.getElem?_append_left (by simpa using hi), List.getElem?_map] at h2
      cases e : vs[i]? with
      | none => rw [e] at h2; cases h2
      | some a => rw [e] at h2; cases h2; rfl
    obtain ⟨u, hu, rv⟩ := r.get ha
    have hp : ps[i]? = some y := by
      rw [← S.pre, List.getElem?_take_of_lt (by omega)]; exact h1
    have ndP : ps.Nodup := by rw [← S.pre]; exact S.nd.sublist (List.take_sublist _ _)
    refine ⟨u, rv, ?_⟩
    rcases S.par y (List.mem_of_getElem? hp) with k | k
    · exact .inl ⟨k, bindL_get ndP hp hu k⟩
    · obtain ⟨c, e⟩ := cell_has (n := s.heap.objs.size + 1) k
      refine .inr ⟨.inl k, c, e, ?_⟩
      have q := x.cell y c e
      rw [bindC_get ndP hp hu (by show scope.names.lookup y ≠ _; rw [k]; decide)] at q
      exact q
  · exact e0.hok.fresh (Nat.le_of_lt (x.above y c (PySem.mem_of_lookup h)))
  · unfold start
    show _ = N.length
    rw [List.length_append, List.length_map, List.length_replicate]
    omega

/-- THE RULE: a def (or a method) of the text, by its body. The body's reading t is chosen for each entry; it is run at the parameters' values -/
theorem fn_of {CX : CXT} {P : Program} {w : World} {K : PySem.W.Frag} {mg : Str → Option Value} {base : Heap} {k : Nat} {f : Addr} {name qual : Str} {params : Arguments} {body : List Stmt} {scope : Scope} {dV kV doc pm cdv ct oc : Value} {an od : Option Addr}
    {osl : Array (Option Value)} {N ps : List Str} {sp : Sp} (lk : K.lookup f = some ⟨oc, od, .func (PySem.W.fnOf name qual params body scope dV kV doc pm an cdv ct), osl⟩) (hcd : PySem.W.codeIn K cdv qual = true) (S : FnScope N ps scope)
    (len : ∀ vs H Q E, sp vs H Q E → vs.length = ps.length)
    (hbody : ∀ (A : Around) (outer : List Env) (s : Shared) (H : Hp) (vs : List V) (Q : VK) (E : XK), Room k (A.deeper (envOfC qual scope s.heap.objs.size f cdv)) → sp vs H Q E →
      ∃ t, PSs (cxOf CX P w K mg base N qual scope f cdv A outer s H E) body t ∧ t { nx := fun _ H' => Q .non H', rt := Q } (start N vs) H) :
    FnOk P w K mg base CX (k + 1) f (PySem.W.fnOf name qual params body scope dV kV doc pm an cdv ct) ps sp := by
  refine ⟨len, fun A outer s H args us vs Q E hr e0 hb r hsp => ?_⟩
  have hl := len _ _ _ _ hsp
  have KX : K.In s.heap := e0.mod.kin.keeps fun b o e => (e0.bs b o e).1
  have lim : s.heap.NoLimit := e0.mod.nolimit.keeps fun b o e => (e0.bs b o e).1
  have hkind : ∀ y ∈ ps.zip us, scope.names.lookup y.1 = some .local ∨ (scope.names.lookup y.1 = some .cell ∧ ((cellsFrom (s.heap.objs.size + 1) scope.names []).lookup y.1).isSome = true) := fun ⟨n, v⟩ hy => by
    rcases S.par n (List.of_mem_zip hy).1 with q | q
    · exact .inl q
    · exact .inr ⟨q, PySem.W.cellsFrom_some _ _ _ (.inl q)⟩
  refine codeAny_call_function hr.depth (KX _ _ lk) rfl S.co S.gen rfl (PySem.W.codeRec_of KX hcd) (hb _ _ _ _ ?_)
  refine wpAny_newFunctionEnv_cells S.kind hkind fun env he s1 x => ?_
  subst he
  refine ⟨lim.keeps x.toInCall.keep, codeAny_func ?_⟩
  obtain ⟨t, ht, hq⟩ := hbody A outer s H vs Q E (hr.deeper _) hsp
  have I : Inv (cxOf CX P w K mg base N qual scope f cdv A outer s H E) [] (start N vs) H s1 := inv_start S hr.hd e0 hl r x
  refine wpAny_mono (ht [] s1 (start N vs) H _ I hq) (fun fl s' hs => ?_) fun e s' hs => hs
  have fin : ∀ {σ' : St} {H' : Hp} {v : V} {u : Value}, Inv (cxOf CX P w K mg base N qual scope f cdv A outer s H E) [] σ' H' s' → RelV v u → Q v H' → CE outer P w H s Q u s' :=
    fun {σ' H' v u} J rv q => ⟨v, H', J.os, J.bare, J.base, J.hok, rv, q⟩
  cases fl with
  | ret u =>
    obtain ⟨v, σ', H', J, rv, q⟩ := hs
    exact fin J rv q
  | next =>
    obtain ⟨σ', H', J, q⟩ := hs
    exact fin (v := V.non) (u := Value.none) J rfl q
  | brk =>
    obtain ⟨_, _, _, q⟩ := hs
    exact False.elim q
  | cont =>
    obtain ⟨_, _, _, q⟩ := hs
    exact False.elim q
end L2

namespace L2
open PySem PySem.Spec PyProof.Rows
section
variable {X : Cx} {x : Str} {p pos : Pos} {e : Expr} {es : List Expr} {t : TA} {id T : String} {r : List V → Hp → VK → Prop}

def tCB (r : List V → Hp → VK → Prop) (t : TA) : TE := fun σ H Q => t σ H fun vs H1 => r vs H1 Q
/-- f(e, ..), f a built-in function -/
theorem pe_callB (hc : CallR X (.builtin id) r) (hg : Gl X x) (hm : X.mg x = none) (hv : bootBuiltins x = some (.builtin id)) (ha : PA X (e :: es) t) (hn : x ≠ "__name__" := by decide) (hdb : (x == ("__debug__" : Str)) = false := by decide)
    (he : starEach (e :: es) X.env = (false, eval e X.env) :: starEach es X.env := by rfl) (hpl : (backTo pos (starEach es X.env)).any (·.1) = false := by rfl) : PE X (.Call (.Name x p) (e :: es) [] pos) (tCB r t) := by
  intro pins s σ H Q I h
  refine wpAny_Call_Name_kw (ld_blt I hg hm hv ?_ hn hdb)
  exact PyProof.Rows.callWith_builtin1 (thn (ha pos pins s σ H _ I h) fun us s1 ⟨vs, H1, I1, r1, q1⟩ => hc pins s1 σ H1 vs us Q I1 r1 q1) he hpl
/-- T(e, ..), T a built-in type -/
theorem pe_callTy (hc : CallR X (.type T) r) (hg : Gl X x) (hm : X.mg x = none) (hv : bootBuiltins x = some (.type T)) (ha : PA X (e :: es) t) (hn : x ≠ "__name__" := by decide) (hdb : (x == ("__debug__" : Str)) = false := by decide)
    (he : starEach (e :: es) X.env = (false, eval e X.env) :: starEach es X.env := by rfl) (hpl : (backTo pos (starEach es X.env)).any (·.1) = false := by rfl) : PE X (.Call (.Name x p) (e :: es) [] pos) (tCB r t) := by
  intro pins s σ H Q I h
  refine wpAny_Call_Name_kw (ld_blt I hg hm hv ?_ hn hdb)
  exact PyProof.Rows.callWith_type1 (thn (ha pos pins s σ H _ I h) fun us s1 ⟨vs, H1, I1, r1, q1⟩ => hc pins s1 σ H1 vs us Q I1 r1 q1) he hpl
end
end L2

namespace HT
open PySem PyProof.Rows

/-- t < u of tuples of ints -/
def lexLt : List Int → List Int → Bool
  | [], [] => false
  | [], _ :: _ => true
  | _ :: _, [] => false
  | x :: xs, y :: ys => if x = y then lexLt xs ys else decide (x < y)
section
open PySem.SeqAt
open PySem.AutoSeq1 (wpAny_loadPart')
open PySem.MeetsSeq PySem.MeetsSeq2 PySem.MeetsSeq3

end

section
variable {prog : Program} {w : World} {A : Around} {E : Value → Shared → Prop} {s : Shared}

/-- t + u, t not empty -/
theorem cat_tup {t b : Addr} {vs ws : List Value} {Q : Value → Shared → Prop} (ht : IsTup s.heap t vs.toArray) (hb : IsTup s.heap b ws.toArray) (hv : vs ≠ [])
    (h1 : ws = [] → Q (.ref t) s) (h2 : ws ≠ [] → Q (.ref s.heap.objs.size) { s with heap := s.heap.push { cls := .type "tuple", data := .seq (vs ++ ws).toArray } })
    (hsz : vs.length + ws.length ≤ sizeLine) : wpAny (model prog w) A (binaryOp .Add (.ref t) (.ref b)) Q E s := by
  obtain ⟨⟨cls, dd, data, sl⟩, ho, hc, n, hd⟩ := id ht
  obtain ⟨⟨cls2, dd2, data2, sl2⟩, ho2, hc2, n2, hd2⟩ := id hb
  simp only at hc hd hc2 hd2
  subst hc hd hc2 hd2
  have e : vs.toArray ++ ws.toArray = (vs ++ ws).toArray := by simp
  by_cases hw : ws = []
  · exact concat_meets ⟨_, ho, rfl⟩ ⟨_, ho2, rfl⟩ noFill_tuple_add seq_tuple_add PySem.F.slot_tuple_add PySem.F.entry_tuple_add (PySem.F.args_tuple_add_2 _ _)
      (tuple_addW1 t b vs.toArray ws.toArray n n2 dd dd2 sl sl2 (by simpa using hv) (by simp [hw])) ⟨ho, ho2, h1 hw⟩
  · refine concat_meets ⟨_, ho, rfl⟩ ⟨_, ho2, rfl⟩ noFill_tuple_add seq_tuple_add PySem.F.slot_tuple_add PySem.F.entry_tuple_add (PySem.F.args_tuple_add_2 _ _)
      (tuple_addW2 t b vs.toArray ws.toArray n n2 dd dd2 sl sl2 (by simpa using hv) (by simpa using hw) (by rw [List.size_toArray, List.size_toArray]; exact hsz)) ⟨ho, ho2, ?_⟩
    rw [e]
    exact h2 hw

/-! ### t[a:b], not the whole -/
/-- a slice's bound as a place among n (d where it is left out) -/
def sIx (n d : Nat) : Option Int → Nat
  | none => d
  | some v => if v < 0 then (v + (n : Int)).toNat else min v.toNat n
theorem sIx_none (n d : Nat) : sIx n d none = d := rfl
theorem sIx_le (n d : Nat) (hd : d ≤ n) (o : Option Int) : sIx n d o ≤ n := by
  cases o with
  | none => exact hd
  | some v =>
    show (if v < 0 then (v + (n : Int)).toNat else min v.toNat n) ≤ n
    by_cases hv : v < 0
    · rw [if_pos hv]; omega
    · rw [if_neg hv]; exact Nat.min_le_right _ _
theorem clip_eq (v : Int) (n d : Nat) : (if v < 0 then max (v + (n : Int)) 0 else min v (n : Int)) = ((sIx n d (some v) : Nat) : Int) := by
  show (if v < 0 then max (v + (n : Int)) 0 else min v (n : Int)) = (((if v < 0 then (v + (n : Int)).toNat else min v.toNat n) : Nat) : Int)
  by_cases hv : v < 0
  · simp only [if_pos hv]; omega
  · simp only [if_neg hv]; omega
theorem adjust_gen (lo hi : Option Int) (n : Nat) : Builtin.Slice.sliceAdjust lo hi 1 (n : Int) = (((sIx n 0 lo : Nat) : Int), ((sIx n n hi : Nat) : Int)) := by
  have h1 : ¬ ((1 : Int) < 0) := by omega
  unfold Builtin.Slice.sliceAdjust
  simp only [h1, if_false]
  refine Prod.ext ?_ ?_
  · cases lo with
    | none => rfl
    | some v => exact clip_eq v n 0
  · cases hi with
    | none => rfl
    | some v => exact clip_eq v n n
theorem places_gen (i j : Nat) : Builtin.Slice.slicePlaces (i : Int) (j : Int) 1 = j - i := by
  unfold Builtin.Slice.slicePlaces
  have h1 : (1 : Int) > 0 := by omega
  simp only [h1, if_true, Int.ediv_one]
  split <;> omega
theorem slicePart_ {v : Value} {o : Option Int} {Q : Option Int → Shared → Prop} (p : IsPart v o) (h : Q o s) : wpAny (model prog w) A (Builtin.Slice.slicePartIndex v) Q E s := by
  cases p with
  | none => exact slicePart_none h
  | int i t => exact slicePart_int h
theorem sliceApplied_gen {sl : Addr} {vl vu : Value} {lo hi : Option Int} {n : Nat} {Q : Int × Int × Nat → Shared → Prop} (hs : s.heap.IsSliceOf sl vl vu .none) (pl : IsPart vl lo) (pu : IsPart vu hi)
    (h : Q (((sIx n 0 lo : Nat) : Int), 1, sIx n n hi - sIx n 0 lo) s) : wpAny (model prog w) A (Builtin.Slice.sliceApplied (.ref sl) (pure (n : Int))) Q E s := by
  obtain ⟨os, hos, hcs, hds⟩ := id hs
  unfold Builtin.Slice.sliceApplied Builtin.Slice.sliceFields
  refine wpAny_bind (wpAny_bind (wpAny_field hos hds (x := vl) rfl (wpAny_bind (wpAny_field hos hds (x := vu) rfl (wpAny_bind (wpAny_field hos hds (x := .none) rfl (wpAny_pure ?_)))))))
  refine wpAny_bind (slicePart_none ?_)
  show wpAny _ _ (if ((1 : Int) == 0) = true then _ else _) _ _ s
  rw [if_neg (by decide)]
  refine wpAny_bind (slicePart_ pl (wpAny_bind (slicePart_ pu (wpAny_bind (wpAny_pure ?_)))))
  show wpAny _ _ (match Builtin.Slice.sliceAdjust lo hi 1 (n : Int) with | (lo, hi) => pure (lo, (1 : Int), Builtin.Slice.slicePlaces lo hi 1)) _ _ s
  rw [adjust_gen lo hi n]
  show wpAny _ _ (pure (((sIx n 0 lo : Nat) : Int), (1 : Int), Builtin.Slice.slicePlaces ((sIx n 0 lo : Nat) : Int) ((sIx n n hi : Nat) : Int) 1)) _ _ s
  rw [places_gen]
  exact wpAny_pure h
theorem pick_gen (xs : Array Value) (i k : Nat) : ((List.range k).filterMap fun (m : Nat) => xs[((i : Int) + (m : Int) * 1).toNat]?).toArray = ((xs.toList.drop i).take k).toArray := by
  have e : (fun (m : Nat) => xs[((i : Int) + (m : Int) * 1).toNat]?) = fun m => xs[i + m]? := by
    funext m
    have : ((i : Int) + (m : Int) * 1).toNat = i + m := by omega
    rw [this]
  rw [e]
  have := pick_run xs i k
  rw [List.filterMap_map] at this
  have e2 : ((fun x => xs[x]?) ∘ fun x => i + x) = fun m => xs[i + m]? := rfl
  rw [e2] at this
  rw [this]

theorem getItem_tuple_cut {t sl : Addr} {items : Array Value} {vl vu : Value} {lo hi : Option Int} {Q : Value → Shared → Prop} (ht : IsTup s.heap t items) (hs : s.heap.IsSliceOf sl vl vu .none) (pl : IsPart vl lo) (pu : IsPart vu hi)
    (hw : ¬ (sIx items.size 0 lo = 0 ∧ sIx items.size items.size hi = items.size))
    (h : Q (.ref s.heap.objs.size) { s with heap := s.heap.push { cls := .type "tuple", data := .seq ((items.toList.drop (sIx items.size 0 lo)).take (sIx items.size items.size hi - sIx items.size 0 lo)).toArray } })
    (hsz : items.size ≤ sizeLine) : wpAny (model prog w) A (getItem (.ref t) (.ref sl)) Q E s := by
  have htake : sizeOk (.seq ((items.toList.drop (sIx items.size 0 lo)).take (sIx items.size items.size hi - sIx items.size 0 lo)).toArray) := by
    show ((items.toList.drop (sIx items.size 0 lo)).take (sIx items.size items.size hi - sIx items.size 0 lo)).toArray.size ≤ sizeLine
    rw [List.size_toArray, List.length_take, List.length_drop, Array.length_toList]
    omega
  have hj : sIx items.size items.size hi ≤ items.size := sIx_le _ _ (Nat.le_refl _) hi
  obtain ⟨os, hos, hcs, hds⟩ := id hs
  have hTs : s.TypeIs (.ref sl) "slice" := ⟨os, hos, hcs⟩
  unfold getItem
  try with_reducible refine wpAny_holding ?_
  first | refine wpAny_bind (wpAny_pure ?_) | skip
  refine wpAny_bind (wpAny_sequenceKey ht.typeIs (by decide) ?_)
  refine wpAny_bind (wpAny_callSpecial?_slot (name := Str.ofString "__getitem__") ht.typeIs PyProof.Rows.slot_tuple_getitem
    (wpAny_call_entry PyProof.Rows.slot_tuple_getitem ht.typeIs entry_tuple_getitem ?_ (args_tuple_getitem _ _)))
  show wpAny _ _ (Builtin.Tuple.tupleItemsOf (.ref t) >>= _) _ _ s
  refine wpAny_bind (tupleItemsOf_ ht ?_)
  refine wpAny_bind (wpAny_typeOf hTs ?_)
  rw [if_pos (by decide)]
  refine wpAny_bind (sliceApplied_gen hs pl pu ?_)
  have hno : ¬ ((((sIx items.size 0 lo : Nat) : Int) == 0 && (1 : Int) == 1 && (sIx items.size items.size hi - sIx items.size 0 lo) == items.size) = true) := by
    intro q
    rw [Bool.and_eq_true, Bool.and_eq_true] at q
    have q1 : ((sIx items.size 0 lo : Nat) : Int) = 0 := eq_of_beq q.1.1
    have q2 : sIx items.size items.size hi - sIx items.size 0 lo = items.size := eq_of_beq q.2
    exact hw ⟨by omega, by omega⟩
  show wpAny _ _ (if (((sIx items.size 0 lo : Nat) : Int) == 0 && (1 : Int) == 1 && (sIx items.size items.size hi - sIx items.size 0 lo) == items.size) = true then _ else _) _ _ s
  rw [if_neg hno, pick_gen]
  first
    | exact wpAny_bind (m := Builtin.Tuple.tupleExact _) (wpAny_newObj_type (wpAny_pure ⟨_, rfl, wpAny_pure h⟩) htake)
    | exact wpAny_bind (m := Builtin.Tuple.tupleExact _) (wpAny_newObj_type (wpAny_bind (wpAny_pure (wpAny_pure ⟨_, rfl, wpAny_pure h⟩))) htake)
    | exact wpAny_bind (wpAny_bind (m := Builtin.Tuple.tupleExact _) (wpAny_newObj_type (wpAny_pure (wpAny_pure ⟨_, rfl, wpAny_pure h⟩)) htake))
    | exact wpAny_bind (wpAny_bind (m := Builtin.Tuple.tupleExact _) (wpAny_newObj_type (wpAny_pure ⟨_, rfl, wpAny_pure h⟩) htake))
end
end HT

namespace L2
open PySem PySem.Spec PyProof.Rows

/-! ### the parts of a slice -/
abbrev TO := St → Hp → (Option Int → Hp → Prop) → Prop
/-- a slice's part (left out, or an int) -/
def PO (X : Cx) (e : Option Expr) (t : TO) : Prop :=
  ∀ (pins : List (Addr × Obj)) (s : Shared) (σ : St) (H : Hp) (Q : Option Int → Hp → Prop), Inv X pins σ H s → t σ H Q →
    wpAny (model X.prog X.w) X.A (evalPart e X.env) (fun u s' => ∃ o H', Inv X pins σ H' s' ∧ IsPart u o ∧ Q o H') X.xe s
def tNoPart : TO := fun _ H Q => Q none H
def tPart (t : TE) : TO := fun σ H Q => t σ H fun x H1 => ∃ i, x = .int i ∧ Q (some i) H1

theorem intsAre_of {ns : List Int} : ∀ {us : List Value}, Vals (ns.map V.int) us → IntsAre us ns := by
  induction ns with
  | nil => intro us r; rw [List.map_nil] at r; cases r; exact .nil
  | cons n ns ih =>
    intro us r
    rw [List.map_cons] at r
    cases r with
    | cons r1 r2 =>
      obtain ⟨t, e⟩ := r1
      subst e
      exact .cons n t (ih r2)

section
variable {X : Cx} {e : Expr} {te : TE} {lo hi : Option Expr} {tl th : TO} {pos p2 : Pos}

theorem po_none : PO X none tNoPart := by
  intro pins s σ H Q I h
  rw [evalPart_none]
  exact wpAny_pure ⟨none, H, I, .none, h⟩
theorem po_some (h : PE X e te) : PO X (some e) (tPart te) := by
  intro pins s σ H Q I hw
  rw [evalPart_some]
  refine thn (h pins s σ H _ I hw) fun u s1 ⟨x, H1, I1, r1, q1⟩ => ?_
  obtain ⟨i, rfl, q⟩ := q1
  obtain ⟨t, rfl⟩ := r1
  exact ⟨some i, H1, I1, .int i t, q⟩

/-- what a slice of a value is, by values: the slice object stands at sl -/
def SlR (X : Cx) (r : V → Option Int → Option Int → Hp → VK → Prop) : Prop :=
  ∀ (pins : List (Addr × Obj)) (s : Shared) (σ : St) (H : Hp) (x : V) (v vl vu : Value) (lo hi : Option Int) (sl : Addr) (Q : VK), Inv X pins σ H s → RelV x v → s.heap.IsSliceOf sl vl vu .none → IsPart vl lo → IsPart vu hi → r x lo hi H Q →
    ∃ T id, typeLookup (.type T) "__getitem__" = pure (some (.builtin id)) ∧ s.TypeIs v T ∧ wpAny (model X.prog X.w) X.A (getItem v (.ref sl)) (EP X pins σ Q) X.xe s
def tSl (r : V → Option Int → Option Int → Hp → VK → Prop) (te : TE) (tl th : TO) : TE := fun σ H Q => te σ H fun x H1 => tl σ H1 fun l H2 => th σ H2 fun u H3 => r x l u H3 Q
/-- a[lo:hi], any a -/
theorem pe_slice {r : V → Option Int → Option Int → Hp → VK → Prop} (hr : SlR X r) (he : PE X e te) (hl : PO X lo tl) (hu : PO X hi th) : PE X (.Subscript e (.Slice lo hi none p2) pos) (tSl r te tl th) := by
  intro pins s σ H Q I h
  refine Subscript_ (thn (he pins s σ H _ I h) fun v s1 ⟨x, H1, I1, r1, q1⟩ => ?_)
  refine wpAny_Slice (thn (hl pins s1 σ H1 _ I1 q1) fun vl s2 ⟨l, H2, I2, pl, q2⟩ => thn (hu pins s2 σ H2 _ I2 q2) fun vu s3 ⟨u, H3, I3, pu, q3⟩ => ?_)
  rw [evalPart_none]
  refine wpAny_pure ?_
  have I4 : Inv X pins σ H3 { s3 with heap := s3.heap.push { cls := .type "slice", data := .fields #[vl, vu, .none] } } := I3.kept (t' := s3.toks) fun b ob q => Heap.get?_push_of_some _ q
  obtain ⟨T, id, hT, ht, hg⟩ := hr pins { s3 with heap := s3.heap.push { cls := .type "slice", data := .fields #[vl, vu, .none] } } σ H3 x v vl vu l u s3.heap.objs.size Q I4 r1 (Heap.IsSliceOf.new ..) pl pu q3
  show wpAny (model X.prog X.w) X.A (subscriptTail e (.Slice lo hi none p2) v (.ref s3.heap.objs.size)) (EP X pins σ Q) X.xe { s3 with heap := s3.heap.push { cls := .type "slice", data := .fields #[vl, vu, .none] } }
  exact tail_any (ops := [.ref s3.heap.objs.size, v]) ht hT hg (by with_unfolding_all rfl)

/-- the items of xs[lo:hi] -/
def cutV (xs : List V) (lo hi : Option Int) : List V := (xs.drop (HT.sIx xs.length 0 lo)).take (HT.sIx xs.length xs.length hi - HT.sIx xs.length 0 lo)
theorem cutV_length (xs : List V) (lo hi : Option Int) : (cutV xs lo hi).length ≤ xs.length := by
  unfold cutV
  rw [List.length_take, List.length_drop]
  omega
/-- t[lo:hi], not the whole of it (the whole would be t itself) -/
def rSlT (K : PySem.W.Frag) : V → Option Int → Option Int → Hp → VK → Prop := fun x lo hi H Q => ∃ a xs, x = .ref a ∧ SqT K H a xs ∧
  ¬ (HT.sIx xs.length 0 lo = 0 ∧ HT.sIx xs.length xs.length hi = xs.length) ∧ ∀ p, H p = none → Q (.ref p) (upd H p (.tup (cutV xs lo hi)))
theorem sl_tup : SlR X (rSlT X.K) := by
  intro pins s σ H x v vl vu lo hi sl Q I rx hs pl pu h
  obtain ⟨a, xs, rfl, hx, hw, q⟩ := h
  cases rx
  obtain ⟨its, r, ht, hz⟩ := I.tuple hx
  have hlen : its.toArray.size = xs.length := by rw [List.size_toArray]; exact r.length.symm
  refine ⟨"tuple", _, PyProof.Rows.slot_tuple_getitem.lookup, ht.typeIs, ?_⟩
  refine HT.getItem_tuple_cut ht hs pl pu (by rw [hlen]; exact hw) ?_ (by rw [hlen]; exact hz)
  rw [hlen]
  refine ⟨.ref s.heap.objs.size, _, I.laid (t' := s.toks) (o := .tup (cutV xs lo hi)) (fun b ob q => Heap.get?_push_of_some _ q) (Nat.le_refl _) ?_, rfl, q _ (I.hok.fresh (Nat.le_refl _))⟩
  exact ⟨Nat.le_trans (cutV_length xs lo hi) hz, _, (r.drop (HT.sIx xs.length 0 lo)).take (HT.sIx xs.length xs.length hi - HT.sIx xs.length 0 lo), IsTup.new _ _⟩

/-! ### t < u, t + u -/
def rLtT (K : PySem.W.Frag) : R2 := fun x y H Q => ∃ a b ns ms, x = .ref a ∧ y = .ref b ∧ SqT K H a (ns.map V.int) ∧ SqT K H b (ms.map V.int) ∧ Q (.bl (HT.lexLt ns ms)) H
/-- t + u, t not empty: u empty gives t itself -/
def rCatT (K : PySem.W.Frag) : R2 := fun x y H Q => ∃ a b xs ys, x = .ref a ∧ y = .ref b ∧ SqT K H a xs ∧ SqT K H b ys ∧ xs ≠ [] ∧ xs.length + ys.length ≤ sizeLine ∧
  (ys = [] → Q (.ref a) H) ∧ (ys ≠ [] → ∀ p, H p = none → Q (.ref p) (upd H p (.tup (xs ++ ys))))
theorem Vals.nil_iff {xs : List V} {us : List Value} (r : Vals xs us) : us = [] ↔ xs = [] := by
  cases r with
  | nil => simp
  | cons _ _ => simp
theorem op_catT : OpR X (binaryOp .Add) (rCatT X.K) := by
  intro pins s σ H x y v u Q I rx ry h
  obtain ⟨a, b, xs, ys, rfl, rfl, ha, hb, hx, hz, q1, q2⟩ := h
  cases rx
  cases ry
  obtain ⟨its, r1, p1, _⟩ := I.tuple ha
  obtain ⟨its2, r2, p2, _⟩ := I.tuple hb
  refine HT.cat_tup p1 p2 (fun z => hx (r1.nil_iff.mp z)) (fun z => ⟨.ref a, H, I, rfl, q1 (r2.nil_iff.mp z)⟩) (fun z => ?_) (by rw [← r1.length, ← r2.length]; exact hz)
  refine ⟨.ref s.heap.objs.size, _, I.laid (t' := s.toks) (o := .tup (xs ++ ys)) (fun b ob q => Heap.get?_push_of_some _ q) (Nat.le_refl _) ?_, rfl, q2 (fun w => z (r2.nil_iff.mpr w)) _ (I.hok.fresh (Nat.le_refl _))⟩
  exact ⟨by rw [List.length_append]; exact hz, _, r1.append r2, IsTup.new _ _⟩
end
end L2

namespace L2
open PySem PySem.Spec PyProof.Rows

/-! ### places -/
/-- the place that an index of any sign means -/
def ixN (n : Nat) (i : Int) : Option Nat := if 0 ≤ i then (if i < n then some i.toNat else none) else if -(n : Int) ≤ i then some (i + n).toNat else none
def atI {α : Type} (xs : List α) (i : Int) : Option α := (ixN xs.length i).bind fun j => xs[j]?
theorem ixN_seq {n : Nat} {i : Int} {j : Nat} (h : ixN n i = some j) : seqIndex? i n = some j ∧ j < n ∧ -(n : Int) ≤ i ∧ i < n := by
  unfold ixN at h
  by_cases h0 : 0 ≤ i
  · rw [if_pos h0] at h
    by_cases h1 : i < n
    · rw [if_pos h1] at h
      have e : i.toNat = j := Option.some.inj h
      exact ⟨by rw [seqIndex_of h0 h1, e], by omega, by omega, h1⟩
    · rw [if_neg h1] at h; cases h
  · rw [if_neg h0] at h
    by_cases h1 : -(n : Int) ≤ i
    · rw [if_pos h1] at h
      have e : (i + n).toNat = j := Option.some.inj h
      exact ⟨by rw [seqIndex_neg (by omega) h1, e], by omega, h1, by omega⟩
    · rw [if_neg h1] at h; cases h
theorem atI_get {α : Type} {xs : List α} {i : Int} {v : α} (h : atI xs i = some v) : ∃ j, seqIndex? i xs.length = some j ∧ xs[j]? = some v ∧ j < xs.length ∧ -(xs.length : Int) ≤ i ∧ i < xs.length := by
  unfold atI at h
  cases e : ixN xs.length i with
  | none => rw [e] at h; cases h
  | some j =>
    rw [e] at h
    obtain ⟨h1, h2, h3, h4⟩ := ixN_seq e
    exact ⟨j, h1, h, h2, h3, h4⟩
theorem atI_nat {α : Type} {xs : List α} {j : Nat} {v : α} (h : xs[j]? = some v) : atI xs (j : Int) = some v := by
  have hj : j < xs.length := (List.getElem?_eq_some_iff.mp h).1
  have e : ixN xs.length (j : Int) = some j := by
    unfold ixN
    rw [if_pos (by omega), if_pos (by omega)]; simp
  unfold atI; rw [e]; exact h
theorem atI_last {α : Type} (xs : List α) (v : α) : atI (xs ++ [v]) (-1) = some v := by
  have hl : (xs ++ [v]).length = xs.length + 1 := by simp
  have e : ixN (xs ++ [v]).length (-1) = some xs.length := by
    unfold ixN
    rw [hl, if_neg (by decide), if_pos (by omega)]
    congr 1
    omega
  unfold atI
  rw [e]
  show (xs ++ [v])[xs.length]? = some v
  simp

/-! ### what may be subscripted -/
/-- what stands as an index of a plain subscript -/
def PlainIx (b : Expr) : Prop := ∀ o i, subscripted b false o i = operate [o, i] (getItem o i)
/-- a subscript by values -/
def IxR (X : Cx) (r : R2) : Prop :=
  ∀ (value slice : Expr) (pins : List (Addr × Obj)) (s : Shared) (σ : St) (H : Hp) (x y : V) (v u : Value) (Q : VK), Inv X pins σ H s → RelV x v → RelV y u → r x y H Q →
    subscripted slice false v u = operate [v, u] (getItem v u) → wpAny (model X.prog X.w) X.A (subscriptTail value slice v u) (EP X pins σ Q) X.xe s
/-- a call of a builtin's method by values: the receiver, the arguments -/
def MtR (X : Cx) (id : String) (r : V → List V → Hp → VK → Prop) : Prop :=
  ∀ (pins : List (Addr × Obj)) (s : Shared) (σ : St) (H : Hp) (x : V) (xs : List V) (v : Value) (us : List Value) (Q : VK), Inv X pins σ H s → RelV x v → Vals xs us → r x xs H Q →
    wpAny (model X.prog X.w) X.A (call (.builtin id) (v :: us)) (EP X pins σ Q) X.xe s
section
variable {X : Cx} {a b : Expr} {ta tb : TE} {pos : Pos}
/-- a[b] -/
theorem pe_ix {r : R2} (hr : IxR X r) (ha : PE X a ta) (hb : PE X b tb) (hs : PlainIx b) : PE X (.Subscript a b pos) (tOp r ta tb) := by
  intro pins s σ H Q I h
  exact Subscript_ (binT ha hb I h fun v u s2 x y H2 I2 rx ry q => hr a b pins s2 σ H2 x y v u Q I2 rx ry q (hs _ _))

def rIxL (K : PySem.W.Frag) : R2 := fun x y H Q => ∃ p xs i v, x = .ref p ∧ y = .int i ∧ SqL K H p xs ∧ atI xs i = some v ∧ Q v H
def rIxT (K : PySem.W.Frag) : R2 := fun x y H Q => ∃ p xs i v, x = .ref p ∧ y = .int i ∧ SqT K H p xs ∧ atI xs i = some v ∧ Q v H
def rIxS : R2 := fun x y H Q => ∃ z i c, x = .str z ∧ y = .int i ∧ z.length ≤ sizeLine ∧ atI z.cps.toList i = some c ∧ Q (.str ⟨#[c]⟩) H
theorem ix_list : IxR X (rIxL X.K) := by
  intro value slice pins s σ H x y v u Q I rx ry h hs
  obtain ⟨p, xs, i, z, rfl, rfl, hq, he, q⟩ := h
  cases rx
  obtain ⟨t, rfl⟩ := ry
  obtain ⟨its, r, pl, hz⟩ := I.list hq
  obtain ⟨j, h1, h2, h3, h4, h5⟩ := atI_get he
  obtain ⟨w, ew, rw'⟩ := r.get h2
  have hl := r.length
  have hn := line63
  have fin : EP X pins σ Q w s := ⟨z, H, I, rw', q⟩
  by_cases h0 : 0 ≤ i
  · have hj : i.toNat = j := by
      rw [seqIndex_of h0 h5] at h1
      exact Option.some.inj h1
    exact item_listR pl.isList h0 (by omega) (by rw [hj]; simpa using ew) fin hs
  · have hj : (i + (its.toArray.size : Int)).toNat = j := by
      rw [seqIndex_neg (by omega) h4] at h1
      rw [List.size_toArray, ← hl]
      exact Option.some.inj h1
    exact subscriptTail_builtinR (x := w) pl.isList.typeIs slot_list_getitem.lookup
      (wpAny_getItem_list_neg (Q := fun r s' => r = w ∧ EP X pins σ Q r s') pl.isList (by omega) (by rw [List.size_toArray] <;> omega) (by omega) (by rw [hj]; simpa using ew) ⟨rfl, fin⟩) hs
theorem ix_tup : IxR X (rIxT X.K) := by
  intro value slice pins s σ H x y v u Q I rx ry h hs
  obtain ⟨p, xs, i, z, rfl, rfl, hq, he, q⟩ := h
  cases rx
  obtain ⟨t, rfl⟩ := ry
  obtain ⟨its, r, pl, hz⟩ := I.tuple hq
  obtain ⟨j, h1, h2, h3, h4, h5⟩ := atI_get he
  obtain ⟨w, ew, rw'⟩ := r.get h2
  have hl := r.length
  have hn := line63
  have fin : EP X pins σ Q w s := ⟨z, H, I, rw', q⟩
  exact subscriptTail_builtinR (x := w) pl.typeIs slot_tuple_getitem.lookup
    (getItem_tuple (j := j) (Q := fun r s' => r = w ∧ EP X pins σ Q r s') pl (by omega) (by omega) (by rw [List.size_toArray, ← hl]; exact h1) (by simpa using ew) ⟨rfl, fin⟩) hs
theorem ix_str : IxR X rIxS := by
  intro value slice pins s σ H x y v u Q I rx ry h hs
  obtain ⟨z, i, c, rfl, rfl, hz, he, q⟩ := h
  obtain ⟨t, rfl⟩ := rx
  obtain ⟨t', rfl⟩ := ry
  obtain ⟨j, h1, h2, h3, h4, h5⟩ := atI_get he
  have hl : z.cps.toList.length = z.length := by simp [Str.length]
  rw [hl] at h1 h4 h5
  have hn := line63
  exact tail_any (typeIs_str s z t) slot_str_getitem.lookup (getItem_str (c := c) (by
    have e1 : decide (i < -(2 ^ 63 : Int)) = false := decide_eq_false (by omega)
    have e2 : decide (i ≥ 2 ^ 63) = false := decide_eq_false (by omega)
    rw [e1, e2, Bool.or_false]) (by rw [h1]; simpa using h2) ⟨.str ⟨#[c]⟩, H, I.tok _, ⟨_, rfl⟩, q⟩) hs
/-- list, tuple or str -/
def rIx (K : PySem.W.Frag) : R2 := fun x y H Q => rIxL K x y H Q ∨ rIxT K x y H Q ∨ rIxS x y H Q
/-! ### xs[i] = v, any sign -/
/-- the list's object behind a store -/
theorem mapSeq_set (its : List Value) (n j : Nat) (u : Value) : Obj.mapSeq (·.setIfInBounds j u) { cls := .type "list", data := .seq its.toArray n } = { cls := .type "list", data := .seq (its.set j u).toArray n } := by
  simp [Obj.mapSeq]
theorem Inv.lst {pins : List (Addr × Obj)} {σ : St} {H : Hp} {s : Shared} {p : Addr} {xs : List V} (I : Inv X pins σ H s) (h : H p = some (.lst xs)) :
    ∃ (its : List Value) (n : Nat), Vals xs its ∧ s.heap.get? p = some { cls := .type "list", data := .seq its.toArray n } ∧ xs.length ≤ sizeLine := by
  obtain ⟨z, its, n, r, e⟩ := I.hok p _ h
  exact ⟨its, n, r, e, z⟩
/-- the list at p is written by an update of its object -/
theorem Inv.lstUpd {pins : List (Addr × Obj)} {σ : St} {H : Hp} {s : Shared} {p : Addr} {xs ys : List V} {its its' : List Value} {n n' : Nat} {f : Obj → Obj} (I : Inv X pins σ H s) (h : H p = some (.lst xs))
    (ho : s.heap.get? p = some { cls := .type "list", data := .seq its.toArray n }) (hf : f { cls := .type "list", data := .seq its.toArray n } = { cls := .type "list", data := .seq its'.toArray n' }) (r : Vals ys its') (hz : ys.length ≤ sizeLine) (t : Nat) :
    Inv X pins σ (upd H p (.lst ys)) { s with heap := s.heap.update p f, toks := t } := by
  have e : (s.heap.update p f).get? p = some { cls := .type "list", data := .seq its'.toArray n' } := by
    rw [Heap.get?_update_self f ho (by rw [hf] <;> rfl), hf]
  refine I.write (x := p) (e := p) (by rw [h]; trivial) (.inl rfl) (fun b u hb q => (Heap.get?_update_other _ _ (Ne.symm hb)).trans q) ⟨_, e⟩ ?_
  exact ⟨hz, its', n', r, e⟩
def rSetL : V → V → V → Hp → (Hp → Prop) → Prop := fun o i v H Q => ∃ p xs k j, o = .ref p ∧ i = .int k ∧ H p = some (.lst xs) ∧ ixN xs.length k = some j ∧ Q (upd H p (.lst (xs.set j v)))
theorem set_list : PSet X rSetL := by
  intro pins s σ H o i v ov iv u Q I ro ri rv h
  obtain ⟨p, xs, k, j, rfl, rfl, hp, hj, q⟩ := h
  cases ro
  obtain ⟨t, rfl⟩ := ri
  obtain ⟨its, n, r, ho, hz⟩ := I.lst hp
  obtain ⟨h1, h2, h3, h4⟩ := ixN_seq hj
  have hl := r.length
  have hn := line63
  have I' : Inv X pins σ (upd H p (.lst (xs.set j v))) { s with heap := s.heap.update p (Obj.mapSeq (·.setIfInBounds j u)) } :=
    I.lstUpd hp ho (mapSeq_set its n j u) (r.set rv j) (by rw [List.length_set]; exact hz) s.toks
  by_cases h0 : 0 ≤ k
  · have hk : k.toNat = j := by
      rw [seqIndex_of h0 h4] at h1
      exact Option.some.inj h1
    exact PySem.W.ki_setAt ho h0 (by omega) (by rw [List.size_toArray, ← hl]; exact h4) (by rw [hk]; exact ⟨_, I', q⟩)
  · have hk : (k + (its.toArray.size : Int)).toNat = j := by
      rw [seqIndex_neg (by omega) h3] at h1
      rw [List.size_toArray, ← hl]
      exact Option.some.inj h1
    exact PySem.W.ki_setBack ho (by omega) (by rw [List.size_toArray, ← hl]; exact h3) (by omega) (by rw [hk]; exact ⟨_, I', q⟩)

/-! ### slices -/
/-- xs[lo:hi] of a list: a new list -/
def rSlL (K : PySem.W.Frag) : V → Option Int → Option Int → Hp → VK → Prop := fun x lo hi H Q => ∃ a xs, x = .ref a ∧ SqL K H a xs ∧ ∀ p, H p = none → Q (.ref p) (upd H p (.lst (cutV xs lo hi)))
/-! ### in, not in: flat items -/
def flatV : V → Bool
  | .non => true
  | .bl _ => true
  | .int _ => true
  | .str _ => true
  | _ => false
/-- == of flat values -/
def eqV : V → V → Bool
  | .non, .non => true
  | .bl a, .bl b => a == b
  | .bl a, .int b => (if a then 1 else 0) == b
  | .int a, .bl b => a == (if b then 1 else 0)
  | .int a, .int b => a == b
  | .str a, .str b => a == b
  | _, _ => false
theorem eqAt_V {A : Around} {s : Shared} {y x : V} {u v : Value} (ry : RelV y u) (rx : RelV x v) (fy : flatV y = true) (fx : flatV x = true) : SeqAt.EqAt A s u v (eqV y x) := by
  cases y with
  | non =>
    cases ry
    cases x with
    | non => cases rx; exact SeqAt.EqAt.same _
    | bl b => cases rx; exact SeqAt.EqAt.none_bool b
    | int b => obtain ⟨t, rfl⟩ := rx; exact SeqAt.EqAt.none_int b t
    | str b => obtain ⟨t, rfl⟩ := rx; exact SeqAt.EqAt.none_str b t
    | _ => exact absurd (show false = true from fx) Bool.false_ne_true
  | bl a =>
    cases ry
    cases x with
    | non => cases rx; exact SeqAt.EqAt.bool_none a
    | bl b => cases rx; exact SeqAt.EqAt.bool_bool a b
    | int b => obtain ⟨t, rfl⟩ := rx; exact SeqAt.EqAt.bool_int a b t
    | str b => obtain ⟨t, rfl⟩ := rx; exact SeqAt.EqAt.bool_str a b t
    | _ => exact absurd (show false = true from fx) Bool.false_ne_true
  | int a =>
    obtain ⟨t', rfl⟩ := ry
    cases x with
    | non => cases rx; exact SeqAt.EqAt.int_none a t'
    | bl b => cases rx; exact SeqAt.EqAt.int_bool a t' b
    | int b => obtain ⟨t, rfl⟩ := rx; exact SeqAt.EqAt.int_int a t' b t
    | str b => obtain ⟨t, rfl⟩ := rx; exact SeqAt.EqAt.int_str a t' b t
    | _ => exact absurd (show false = true from fx) Bool.false_ne_true
  | str a =>
    obtain ⟨t', rfl⟩ := ry
    cases x with
    | non => cases rx; exact SeqAt.EqAt.str_none a t'
    | bl b => cases rx; exact SeqAt.EqAt.str_bool a t' b
    | int b => obtain ⟨t, rfl⟩ := rx; exact SeqAt.EqAt.str_int a t' b t
    | str b => obtain ⟨t, rfl⟩ := rx; exact SeqAt.EqAt.str_str a t' b t
    | _ => exact absurd (show false = true from fx) Bool.false_ne_true
  | _ => exact absurd (show false = true from fy) Bool.false_ne_true
/-- the items' answers, read off the values (a value's own answer does not lean on its token) -/
def eqU (x : V) (u : Value) : Bool := match u with
  | .none => eqV .non x
  | .bool b => eqV (.bl b) x
  | .int i _ => eqV (.int i) x
  | .str z _ => eqV (.str z) x
  | _ => false
theorem eqU_of {x y : V} {u : Value} (r : RelV y u) (f : flatV y = true) : eqU x u = eqV y x := by
  cases y with
  | non => cases r; rfl
  | bl b => cases r; rfl
  | int i => obtain ⟨t, rfl⟩ := r; rfl
  | str z => obtain ⟨t, rfl⟩ := r; rfl
  | _ => exact absurd (show false = true from f) Bool.false_ne_true
theorem any_eqU {x : V} : ∀ {xs : List V} {us : List Value}, Vals xs us → xs.all flatV = true → us.any (eqU x) = xs.any fun y => eqV y x
  | _, _, .nil, _ => rfl
  | y :: xs, u :: us, .cons r t, f => by
    rw [List.all_cons, Bool.and_eq_true] at f
    rw [List.any_cons, List.any_cons, eqU_of r f.1, any_eqU t f.2]
theorem mem_eqAt {A : Around} {s : Shared} {x : V} {v : Value} (rx : RelV x v) (fx : flatV x = true) : ∀ {xs : List V} {us : List Value}, Vals xs us → xs.all flatV = true → ∀ u ∈ us, SeqAt.EqAt A s u v (eqU x u)
  | _, _, .nil, _ => fun u hu => by cases hu
  | y :: xs, u :: us, .cons r t, f => fun u' hu => by
    rw [List.all_cons, Bool.and_eq_true] at f
    rcases List.mem_cons.mp hu with rfl | hu
    · rw [eqU_of r f.1]; exact eqAt_V r rx f.1 fx
    · exact mem_eqAt rx fx t f.2 u' hu
def inV (x : V) (xs : List V) : Bool := xs.any fun y => eqV y x
/-- x in a list or tuple of flat items -/
def rIn (K : PySem.W.Frag) (neg : Bool) : R2 := fun x y H Q => ∃ p xs, y = .ref p ∧ (SqL K H p xs ∨ SqT K H p xs) ∧ flatV x = true ∧ xs.all flatV = true ∧ Q (.bl (if neg then !inV x xs else inV x xs)) H
theorem op_in_seq : OpR X (compareOp .In) (rIn X.K false) := by
  intro pins s σ H x y v u Q I rx ry h
  obtain ⟨p, xs, rfl, hq, fx, fs, q⟩ := h
  cases ry
  rcases hq with hq | hq
  · obtain ⟨its, r, pl, hz⟩ := I.list hq
    refine SeqAt.in_listAt (eqU x) pl.isList (fun w hw => mem_eqAt rx fx r fs w (by simpa using hw)) ⟨.bl _, H, I, rfl, ?_⟩
    rw [show its.toArray.any (eqU x) = its.any (eqU x) by simp, any_eqU r fs]
    exact q
  · obtain ⟨its, r, pl, hz⟩ := I.tuple hq
    refine SeqAt.in_tupleAt (eqU x) pl (fun w hw => mem_eqAt rx fx r fs w (by simpa using hw)) ⟨.bl _, H, I, rfl, ?_⟩
    rw [show its.toArray.any (eqU x) = its.any (eqU x) by simp, any_eqU r fs]
    exact q
/-! ### len, list(x), tuple(x) of any list or tuple that is read -/
theorem call_len_seq : CallR X (.builtin "len") (fun xs H Q => ∃ p ys, xs = [.ref p] ∧ (SqL X.K H p ys ∨ SqT X.K H p ys) ∧ Q (.int ys.length) H) := by
  intro pins s σ H xs us Q I r h
  obtain ⟨p, ys, rfl, hq, q⟩ := h
  obtain ⟨u, rfl, rx⟩ := vals1 r
  cases rx
  have hn := line63
  rcases hq with hq | hq
  · obtain ⟨its, r', pl, hz⟩ := I.list hq
    have hlen := r'.length
    exact Calls.call_len_list pl.isList (by simp only [List.size_toArray] <;> omega) ⟨.int ys.length, H, I.tok _, ⟨s.toks + 1, by rw [List.size_toArray, hlen]⟩, q⟩
  · obtain ⟨its, r', pl, hz⟩ := I.tuple hq
    have hlen := r'.length
    exact len_tuple pl (by simp only [List.size_toArray] <;> omega) ⟨.int ys.length, H, I.tok _, ⟨s.toks + 1, by rw [List.size_toArray, hlen]⟩, q⟩
theorem call_list_of : CallR X (.type "list") (fun xs H Q => ∃ p ys, xs = [.ref p] ∧ (SqL X.K H p ys ∨ SqT X.K H p ys) ∧ ∀ l, H l = none → Q (.ref l) (upd H l (.lst ys))) := by
  intro pins s σ H xs us Q I r h
  obtain ⟨p, ys, rfl, hq, q⟩ := h
  obtain ⟨u, rfl, rx⟩ := vals1 r
  cases rx
  have fin : ∀ (its : List Value), Vals ys its → ys.length ≤ sizeLine → ∀ (h' : Heap) (c' : Nat), (∀ b o', s.heap.get? b = some o' → h'.get? b = some o') →
      h'.get? s.heap.objs.size = some { cls := .type "list", dict := none, data := .seq its.toArray c', slots := #[] } → EP X pins σ Q (.ref s.heap.objs.size) { s with heap := h' } := fun its r' hz h' c' kp e =>
    ⟨.ref s.heap.objs.size, _, I.laid (t' := s.toks) kp (Nat.le_refl _) (show ObjOk X.prog X.w _ h' _ (.lst ys) from ⟨hz, its, c', r', e⟩), rfl, q _ (I.hok.fresh (Nat.le_refl _))⟩
  rcases hq with hq | hq
  · obtain ⟨its, r', pl, hz⟩ := I.list hq
    have hlen := r'.length
    obtain ⟨o, ho, hc, n, hd⟩ := pl.isList
    exact call_list_seq p (.inl rfl) ho hc hd (fun h' c' kp e => fin its r' hz h' c' kp e) (by simp only [List.size_toArray] <;> omega)
  · obtain ⟨its, r', pl, hz⟩ := I.tuple hq
    have hlen := r'.length
    obtain ⟨o, ho, hc, n, hd⟩ := pl
    exact call_list_seq p (.inr rfl) ho hc hd (fun h' c' kp e => fin its r' hz h' c' kp e) (by simp only [List.size_toArray] <;> omega)
theorem call_tuple_of : CallR X (.type "tuple") (fun xs H Q => ∃ p ys, xs = [.ref p] ∧ ((SqL X.K H p ys ∧ ∀ l, H l = none → Q (.ref l) (upd H l (.tup ys))) ∨ (SqT X.K H p ys ∧ Q (.ref p) H))) := by
  intro pins s σ H xs us Q I r h
  obtain ⟨p, ys, rfl, h⟩ := h
  obtain ⟨u, rfl, rx⟩ := vals1 r
  cases rx
  rcases h with ⟨hq, q⟩ | ⟨hq, q⟩
  · obtain ⟨its, r', pl, hz⟩ := I.list hq
    have hlen := r'.length
    refine call_tuple_list pl.isList (fun h' kp => ?_) (by simp only [List.size_toArray] <;> omega)
    have I1 : Inv X pins σ H { s with heap := h' } := I.kept (t' := s.toks) kp
    have I2 : Inv X pins σ (upd H h'.objs.size (.tup ys)) { s with heap := h'.push { cls := .type "tuple", data := .seq its.toArray } } :=
      I1.laid (t' := s.toks) (fun b o e => Heap.get?_push_of_some _ e) (Nat.le_refl _) (show ObjOk X.prog X.w _ _ _ (.tup ys) from ⟨hz, its, r', IsTup.new _ _⟩)
    exact ⟨.ref h'.objs.size, _, I2, rfl, q _ (I1.hok.fresh (Nat.le_refl _))⟩
  · obtain ⟨its, r', pl, hz⟩ := I.tuple hq
    exact call_tuple_same pl ⟨.ref p, H, I, rfl, q⟩

/-! ### the call of a builtin's method: o.m(..) -/
/-- the value is of that builtin type -/
def tyV (K : PySem.W.Frag) (T : String) (x : V) (H : Hp) : Prop := match x with
  | .str _ => T = "str"
  | .int _ => T = "int"
  | .ref p => (T = "list" ∧ ∃ xs, SqL K H p xs) ∨ (T = "tuple" ∧ ∃ o, K.lookup p = some o ∧ o.cls = .type "tuple" ∧ o.dict = none) ∨
      (T = "dict" ∧ ((∃ kvs, H p = some (.dK kvs)) ∨ ∃ kvs, H p = some (.dT kvs))) ∨ (T = "set" ∧ ∃ S n, H p = some (.set S n))
  | _ => False
theorem tyV_is {pins : List (Addr × Obj)} {σ : St} {H : Hp} {s : Shared} {T : String} {x : V} {v : Value} (I : Inv X pins σ H s) (r : RelV x v) (ty : tyV X.K T x H) :
    s.TypeIs v T ∧ ∀ a, v = .ref a → ∃ ob, s.heap.get? a = some ob ∧ ob.dict = none := by
  cases x with
  | str z =>
    obtain ⟨t, rfl⟩ := r
    cases (show T = "str" from ty)
    exact ⟨typeIs_str s z t, fun _ e => nomatch e⟩
  | int i =>
    obtain ⟨t, rfl⟩ := r
    cases (show T = "int" from ty)
    exact ⟨typeIs_int s i t, fun _ e => nomatch e⟩
  | ref p =>
    cases r
    rcases ty with ⟨rfl, xs, hq⟩ | ⟨rfl, o, hk, hc, hd⟩ | ⟨rfl, hk⟩ | ⟨rfl, S, n, hk⟩
    · obtain ⟨its, _, pl, _⟩ := I.list hq
      refine ⟨pl.isList.typeIs, fun a e => ?_⟩
      cases e
      obtain ⟨o, n, e, c, hd, _⟩ := pl
      exact ⟨o, e, hd⟩
    · refine ⟨⟨o, I.kIn p o hk, hc⟩, fun a e => ?_⟩
      cases e
      exact ⟨o, I.kIn _ o hk, hd⟩
    · have z : ∃ o, s.heap.get? p = some o ∧ o.ExactDict := by
        rcases hk with ⟨kvs, hk⟩ | ⟨kvs, hk⟩
        · obtain ⟨_, _, _, _, o, _, _, e, ex, _⟩ := I.hok p _ hk
          exact ⟨o, e, ex⟩
        · obtain ⟨_, _, _, _, o, _, _, e, ex, _⟩ := I.hok p _ hk
          exact ⟨o, e, ex⟩
      obtain ⟨o, e, ex⟩ := z
      refine ⟨⟨o, e, ex.1⟩, fun a e2 => ?_⟩
      cases e2
      exact ⟨o, e, ex.2.1⟩
    · obtain ⟨o, _, _, _, e, ex, _⟩ := I.hok p _ hk
      refine ⟨⟨o, e, ex.1⟩, fun a e2 => ?_⟩
      cases e2
      exact ⟨o, e, ex.2.1⟩
  | _ => exact False.elim ty
def tBM0 (K : PySem.W.Frag) (T : String) (r : V → List V → Hp → VK → Prop) (to : TE) : TE := fun σ H Q => to σ H fun x H1 => tyV K T x H1 ∧ r x [] H1 Q
def tBM (K : PySem.W.Frag) (T : String) (r : V → List V → Hp → VK → Prop) (to : TE) (t : TA) : TE := fun σ H Q => to σ H fun x H1 => tyV K T x H1 ∧ t σ H1 fun xs H2 => r x xs H2 Q
variable {o e : Expr} {es : List Expr} {to : TE} {t : TA} {name : Str} {apos cpos : Pos} {T id : String} {r : V → List V → Hp → VK → Prop}
theorem pe_bm0 (pa : PlainAttrs T) (slot : Slot T name id) (hty : typeOf (.builtin id) = pure (.type "method_descriptor")) (hm : MtR X id r) (ho : PE X o to)
    (hbase : attributeBase o name X.env (eval o X.env) = eval o X.env := by rfl) (hline : (apos.endLine == cpos.line) = true := by rfl) : PE X (.Call (.Attribute o name apos) [] [] cpos) (tBM0 X.K T r to) := by
  intro pins s σ H Q I h
  refine wpAny_Call_method0_late hbase hline (thn (ho pins s σ H _ I h) fun v s1 ⟨x, H1, I1, r1, ty, q1⟩ => ?_)
  obtain ⟨h1, h2⟩ := tyV_is I1 r1 ty
  exact ⟨T, id, pa, slot, hty, h1, h2, Calls.callWith_builtin rfl (PySem.evalArgs_none (hm pins s1 σ H1 x [] v [] Q I1 r1 .nil q1))⟩
theorem pe_bm (pa : PlainAttrs T) (slot : Slot T name id) (hty : typeOf (.builtin id) = pure (.type "method_descriptor")) (hm : MtR X id r) (ho : PE X o to) (ha : PA X (e :: es) t)
    (hbase : attributeBase o name X.env (eval o X.env) = eval o X.env := by rfl)
    (hfew : ((backTo cpos (starEach (e :: es) X.env)).all (fun x => !x.1) && (backToKw cpos (keywordEach [] X.env)).all (fun x => x.1.isSome)
      && decide ((e :: es).length + ([] : List Keyword).length + (if ([] : List Keyword).isEmpty then 0 else 1) < 30)) = true := by rfl)
    (hline : (apos.endLine == cpos.line) = true := by rfl) (hs : starEach (e :: es) X.env = (false, eval e X.env) :: starEach es X.env := by rfl) (hplain : (backTo cpos (starEach es X.env)).any (·.1) = false := by rfl) :
    PE X (.Call (.Attribute o name apos) (e :: es) [] cpos) (tBM X.K T r to t) := by
  intro pins s σ H Q I h
  refine wpAny_Call_method_late hbase hfew hline rfl (thn (ho pins s σ H _ I h) fun v s1 ⟨x, H1, I1, r1, ty, q1⟩ => ?_)
  obtain ⟨h1, h2⟩ := tyV_is I1 r1 ty
  refine ⟨T, id, pa, slot, hty, h1, h2, ?_⟩
  have hA := ha cpos pins s1 σ H1 _ I1 q1
  rw [hs] at hA ⊢
  refine Calls.callWith_builtin (by show (false || (backTo cpos (starEach es X.env)).any (·.1)) = false; rw [hplain] <;> rfl) (Calls.evalArgs_plain ?_)
  exact thn hA fun us s2 ⟨vs, H2, I2, r2, q2⟩ => hm pins s2 σ H2 x vs v us Q I2 r1 r2 q2
/- xs.append(e), list.index on a module's tuple .. are MtR facts of 06m -/
end
end L2

namespace L2
open PySem PySem.Spec PyProof.Rows

def MtM (X : Cx) (id : String) (r : V → List V → Hp → VK → Prop) : Prop :=
  ∀ (pins : List (Addr × Obj)) (s : Shared) (σ : St) (H : Hp) (x : V) (xs : List V) (v : Value) (us : List Value) (Q : VK), Inv X pins σ H s → RelV x v → Vals xs us → r x xs H Q →
    wpAny (model X.prog X.w) X.A (call (.builtin id) (v :: us)) (EP X pins σ Q) X.xe s

/-! ### lists of values -/
theorem Vals.one : ∀ {x : V} {us : List Value}, Vals [x] us → ∃ u, us = [u] ∧ RelV x u
  | _, _, .cons r .nil => ⟨_, rfl, r⟩
theorem Vals.two : ∀ {x y : V} {us : List Value}, Vals [x, y] us → ∃ u v, us = [u, v] ∧ RelV x u ∧ RelV y v
  | _, _, _, .cons r (.cons q .nil) => ⟨_, _, rfl, r, q⟩
theorem Vals.zero : ∀ {us : List Value}, Vals [] us → us = []
  | _, .nil => rfl
theorem Vals.dropLast {xs : List V} {us : List Value} (h : Vals xs us) : Vals xs.dropLast us.dropLast := by
  induction h with
  | nil => exact .nil
  | cons r t ih =>
    cases t with
    | nil => exact .nil
    | cons q t' => exact .cons r ih
theorem Vals.rep {xs : List V} {us : List Value} (h : Vals xs us) : ∀ k : Nat, Vals (List.replicate k xs).flatten (List.replicate k us).flatten
  | 0 => .nil
  | k + 1 => by
    rw [List.replicate_succ, List.replicate_succ, List.flatten_cons, List.flatten_cons]
    exact Vals.append h (Vals.rep h k)
theorem erase_last {α : Type} (l : List α) : l.eraseIdx (l.length - 1) = l.dropLast := by
  induction l with
  | nil => rfl
  | cons a r ih =>
    cases r with
    | nil => rfl
    | cons b r =>
      have e : (a :: b :: r).length - 1 = ((b :: r).length - 1) + 1 := by
        have h1 : (a :: b :: r).length = r.length + 2 := rfl
        have h2 : (b :: r).length = r.length + 1 := rfl
        omega
      rw [e, List.eraseIdx_cons_succ, ih]
      all_goals rfl
theorem foldl_rep (its : List Value) : ∀ (k : Nat) (acc : List Value),
    List.foldl (fun x1 x2 => x1 ++ x2) acc.toArray (List.replicate k its.toArray) = (acc ++ (List.replicate k its).flatten).toArray
  | 0, acc => by simp
  | k + 1, acc => by
    have e : acc.toArray ++ its.toArray = (acc ++ its).toArray := by simp
    have e2 : (acc ++ its) ++ (List.replicate k its).flatten = acc ++ (List.replicate (k + 1) its).flatten := by
      rw [List.replicate_succ, List.flatten_cons, List.append_assoc]
    rw [← e2, ← foldl_rep its k (acc ++ its), ← e, List.replicate_succ, List.foldl_cons]

section
variable {X : Cx} {pins : List (Addr × Obj)} {σ : St} {H : Hp} {s : Shared} {l b : Addr} {xs ys zs : List V}

/-! ### the two steps: a tracked list is rewritten, a new list is laid -/
theorem Inv.lset {its its' : List Value} {n : Nat} {f : Array Value → Array Value} {t' : Nat} (I : Inv X pins σ H s) (hH : H l = some (.lst xs))
    (e : s.heap.get? l = some { cls := .type "list", data := .seq its.toArray n }) (hf : f its.toArray = its'.toArray) (hv : Vals ys its') (hz : ys.length ≤ sizeLine) :
    Inv X pins σ (upd H l (.lst ys)) { s with heap := s.heap.update l (Obj.mapSeq f), toks := t' } := by
  have q := PySem.IsL.update e f
  rw [hf] at q
  refine I.write (x := l) (e := l) (by rw [hH]; exact trivial) (.inl rfl) (fun b' u hb hu => (Heap.get?_update_other s.heap (Obj.mapSeq f) (Ne.symm hb)).trans hu) ⟨_, q⟩ ?_
  exact ⟨hz, its', _, hv, q⟩
theorem Inv.lnew {its : List Value} {t' : Nat} (I : Inv X pins σ H s) (hv : Vals ys its) (hz : ys.length ≤ sizeLine) :
    Inv X pins σ (upd H s.heap.objs.size (.lst ys)) { s with heap := s.heap.push { cls := .type "list", data := .seq its.toArray }, toks := t' } :=
  I.laid (fun _ _ q => Heap.get?_push_of_some _ q) (Nat.le_refl _) ⟨hz, its, 0, hv, Heap.get?_push_size _ rfl⟩
theorem Inv.fresh (I : Inv X pins σ H s) : H s.heap.objs.size = none := I.hok.fresh (Nat.le_refl _)
theorem Inv.lstM (I : Inv X pins σ H s) (hH : H l = some (.lst xs)) : xs.length ≤ sizeLine ∧ ∃ (its : List Value) (n : Nat), Vals xs its ∧ xs.length = its.length ∧ s.heap.get? l = some { cls := .type "list", data := .seq its.toArray n } := by
  obtain ⟨z, its, n, r, e⟩ := I.hok l _ hH
  exact ⟨z, its, n, r, r.length, e⟩

theorem notLongL {n : Nat} (h : n ≤ sizeLine) : Builtin.List.listTooLong n = false := by
  unfold Builtin.List.listTooLong
  exact decide_eq_false (by omega)
end

section
variable {X : Cx}

/-! ### methods -/
def rAppend : V → List V → Hp → VK → Prop := fun x vs H Q => ∃ l xs y, x = .ref l ∧ vs = [y] ∧ H l = some (.lst xs) ∧ xs.length < sizeLine ∧ Q .non (upd H l (.lst (xs ++ [y])))
theorem mt_append : MtM X "list.append" rAppend := by
  intro pins s σ H x vs v us Q I rx rv h
  obtain ⟨l, xs, y, rfl, rfl, hH, hz, q⟩ := h
  cases rx
  obtain ⟨u, rfl, ru⟩ := rv.one
  obtain ⟨z, its, n, r, hl, e⟩ := I.lstM hH
  refine call_meets F.slot_list_append ⟨_, e, rfl⟩ F.entry_list_append (F.args_list_append_2 _ _) (PySem.list_append l its.toArray n u (by rw [List.size_toArray]; omega)) ⟨e, ?_⟩
  refine ⟨.non, _, I.lset (its' := its ++ [u]) hH e (by simp) (r.append (.cons ru .nil)) ?_, rfl, q⟩
  rw [List.length_append, List.length_singleton]
  omega

def rExtend : V → List V → Hp → VK → Prop := fun x vs H Q => ∃ l b xs zs, x = .ref l ∧ vs = [.ref b] ∧ H l = some (.lst xs) ∧ H b = some (.lst zs) ∧ xs.length + zs.length ≤ sizeLine ∧ Q .non (upd H l (.lst (xs ++ zs)))
def rPop : V → List V → Hp → VK → Prop := fun x vs H Q => ∃ l xs y, x = .ref l ∧ vs = [] ∧ H l = some (.lst xs) ∧ xs[xs.length - 1]? = some y ∧ Q y (upd H l (.lst xs.dropLast))
theorem mt_pop : MtM X "list.pop" rPop := by
  intro pins s σ H x vs v us Q I rx rv h
  obtain ⟨l, xs, y, rfl, rfl, hH, hy, q⟩ := h
  cases rx
  have hus := rv.zero
  subst hus
  obtain ⟨z, its, n, r, hl, e⟩ := I.lstM hH
  obtain ⟨u, hu, ru⟩ := r.get hy
  have hy' : its.toArray[its.toArray.size - 1]? = some u := by
    show its.toArray[its.length - 1]? = some u
    rw [← Array.getElem?_toList, ← hl]
    exact hu
  refine call_meets F.slot_list_pop ⟨_, e, rfl⟩ F.entry_list_pop (F.args_list_pop_1 _) (MeetsSeq.list_pop_last l its.toArray n u hy' (by rw [List.size_toArray]; omega)) ⟨e, ?_⟩
  refine ⟨y, _, I.lset (its' := its.dropLast) hH e ?_ r.dropLast ?_, ru, q⟩
  · show its.toArray.eraseIdxIfInBounds (its.toArray.size - 1) = its.dropLast.toArray
    rw [List.size_toArray, List.eraseIdxIfInBounds_toArray, erase_last]
  · rw [List.length_dropLast]
    omega

def rPopAt : V → List V → Hp → VK → Prop := fun x vs H Q => ∃ l xs i k y, x = .ref l ∧ vs = [.int i] ∧ H l = some (.lst xs) ∧ -(2 ^ 63) ≤ i ∧ i < 2 ^ 63 ∧ seqIndex? i xs.length = some k ∧ xs[k]? = some y ∧ Q y (upd H l (.lst (xs.eraseIdx k)))
def rReverse : V → List V → Hp → VK → Prop := fun x vs H Q => ∃ l xs, x = .ref l ∧ vs = [] ∧ H l = some (.lst xs) ∧ Q .non (upd H l (.lst xs.reverse))
def rClear : V → List V → Hp → VK → Prop := fun x vs H Q => ∃ l xs, x = .ref l ∧ vs = [] ∧ H l = some (.lst xs) ∧ Q .non (upd H l (.lst []))
/-! ### list + list, list += list, list * int -/
def rCat : R2 := fun x y H Q => ∃ l b xs zs, x = .ref l ∧ y = .ref b ∧ H l = some (.lst xs) ∧ H b = some (.lst zs) ∧ xs.length + zs.length ≤ sizeLine ∧ ∀ p, H p = none → Q (.ref p) (upd H p (.lst (xs ++ zs)))
theorem op_cat : OpR X (binaryOp .Add) rCat := by
  intro pins s σ H x y v u Q I rx ry h
  obtain ⟨l, b, xs, zs, rfl, rfl, hH, hB, hz, q⟩ := h
  cases rx
  cases ry
  obtain ⟨z, its, n, r, hl, e⟩ := I.lstM hH
  obtain ⟨z2, its2, n2, r2, hl2, e2⟩ := I.lstM hB
  refine PySem.P.add_list e e2 ?_ (by rw [List.size_toArray, List.size_toArray]; omega)
  have ea : its.toArray ++ its2.toArray = (its ++ its2).toArray := by simp
  rw [ea]
  exact ⟨.ref _, _, I.lnew (t' := s.toks) (r.append r2) (by rw [List.length_append]; omega), rfl, q _ I.fresh⟩
/-- a list times an int (a negative one is nothing) -/
def rRep : R2 := fun x y H Q => ∃ l k xs, x = .ref l ∧ y = .int k ∧ H l = some (.lst xs) ∧ -(2 ^ 63) ≤ k ∧ k < 2 ^ 63 ∧ xs.length * k.toNat ≤ sizeLine ∧
  ∀ p, H p = none → Q (.ref p) (upd H p (.lst (List.replicate k.toNat xs).flatten))
theorem len_rep {α : Type} (xs : List α) (k : Nat) : (List.replicate k xs).flatten.length = k * xs.length := by
  induction k with
  | zero => simp
  | succ k ih => rw [List.replicate_succ, List.flatten_cons, List.length_append, ih, Nat.succ_mul, Nat.add_comm]
theorem op_rep : OpR X (binaryOp .Mult) rRep := by
  intro pins s σ H x y v u Q I rx ry h
  obtain ⟨l, k, xs, rfl, rfl, hH, h1, h2, hz, q⟩ := h
  cases rx
  obtain ⟨t, rfl⟩ := ry
  obtain ⟨z, its, n, r, hl, e⟩ := I.lstM hH
  have hlen : its.toArray.size * k.toNat ≤ sizeLine := by rw [List.size_toArray, ← hl]; exact hz
  have hcap : ¬ its.toArray.size * k.toNat > (2 ^ 63 - 1) / 8 := by
    have : (sizeLine : Nat) ≤ (2 ^ 63 - 1) / 8 := by decide
    omega
  have hfit : ¬ (!Builtin.List.listFitsIndex k) = true := by
    rw [fitsIndex_both h1 h2]
    exact Bool.false_ne_true
  have hlong : ¬ Builtin.List.listTooLong (its.toArray.size * k.toNat) = true := by
    rw [notLongL hlen]
    exact Bool.false_ne_true
  have hnew : List.foldl (fun x1 x2 => x1 ++ x2) #[] (List.replicate (if its.toArray.isEmpty = true then 0 else k.toNat) its.toArray) = (List.replicate k.toNat its).flatten.toArray := by
    have f0 : ∀ m : Nat, List.foldl (fun x1 x2 => x1 ++ x2) #[] (List.replicate m its.toArray) = (List.replicate m its).flatten.toArray := fun m => by
      have := foldl_rep its m []
      rw [List.nil_append] at this
      exact this
    rw [f0]
    cases its with
    | nil => simp
    | cons a r' => rw [if_neg (by simp)]
  refine wpAny_binaryOp_repeat_ref (T := "list") (U := "int") (by decide) ⟨_, e, rfl⟩ (fun s' => typeIs_int s' k t) noFill_list_mul F.fills_int_mul F.slot_int_rmul repeat_list F.slot_int_index.lookup
    (call_meets F.slot_int_rmul (typeIs_int s k t) F.entry_int_rmul (F.args_int_rmul_2 _ _) (int___rmul___int_list k t l its.toArray n)
      ⟨e, rfl, ⟨_, e, rfl⟩, call_meets F.slot_list_mul ⟨_, e, rfl⟩ F.entry_list_mul (F.args_list_mul_2 _ _) (AutoListH.list___mul___list_int_3 l its.toArray n k t hfit hcap hlong) ⟨e, ?_⟩⟩)
  rw [hnew]
  exact ⟨.ref _, _, I.lnew (t' := s.toks) (r.rep k.toNat) (by rw [len_rep, Nat.mul_comm]; exact hz), rfl, q _ I.fresh⟩

/-! ### del xs[i] -/
end

/-! ### xs[a:b] = ys -/
section
variable {prog : Program} {w : World} {A : Around} {E : Value → Shared → Prop} {s : Shared}
set_option maxRecDepth 100000 in
end

section
variable {X : Cx}
end
end L2

namespace Att
open PySem PySem.W PySem.Calls PyProof.Rows

/-! ### the script -/
theorem ints_of_wellAll {P : Params} {h : Heap} : ∀ (ns : List Int) (vs : List Value), WellAll P h vs (ns.map WData.int) → IntsAre vs ns := by
  intro ns
  induction ns with
  | nil =>
    intro vs w
    rw [List.map_nil] at w
    cases w
    exact .nil
  | cons n ns ih =>
    intro vs w
    rw [List.map_cons] at w
    cases w with
    | cons a b =>
      cases a
      exact .cons _ _ (ih _ b)

theorem script_of {l : OpenLaw} {n : Nat} (hn : l.most = some n) {P : Params} {h : Heap} {args : List WData} {vals : List Value}
    (hpre : l.row.toRowW.claim.pre args = true) (hwl : WellAll P h vals args) :
    ∃ a vs ns, vals = [Value.ref a] ∧ args = [WData.list (ns.map WData.int)] ∧ h.get? a = some { cls := .type "list", data := .seq vs.toArray } ∧ IntsAre vs ns ∧ ns.length ≤ n := by
  have hsh : WShape.hasAll [] args [.list .int] = true := (pre_splitW hpre).1
  have hc : l.pre.holds [] { args := args } = true := (pre_splitW hpre).2
  obtain ⟨d, r, rfl, h1, h2⟩ := hasAllW_cons hsh
  obtain rfl := hasAllW_nil h2
  obtain ⟨xs, rfl, h3⟩ := hasW_list h1
  obtain ⟨ns, rfl⟩ := items_int h3
  have hlen : ns.length ≤ n := by
    unfold OpenLaw.pre at hc
    have h4 : (WTm.not (.lt (.lit (.int (n : Int))) (.len (.arg 0)))).holds [] { args := [.list (ns.map .int)] } = true := by
      have h4 := (holds_andW hc).1
      rw [hn] at h4
      exact h4
    have h5 := condW_of h4 (w_not (w_lt w_lit (w_len_list (w_arg rfl))))
    rw [List.length_map] at h5
    refine Nat.le_of_not_lt fun q => ?_
    have q' : (n : Int) < ((ns.length : Nat) : Int) := by omega
    first
      | (rw [decide_eq_true q'] at h5; exact absurd h5 (by decide))
      | (simp at h5; omega)
  cases hwl with
  | cons w1 w2 =>
    cases w2
    cases w1 with
    | list ho hall => exact ⟨_, _, ns, rfl, rfl, ho, ints_of_wellAll ns _ hall, hlen⟩

theorem post_true (l : OpenLaw) (args : List WData) : l.row.toRowW.claim.post args (.bool true) args = true :=
  postW_of (r := l.row.toRowW) (X := (true == true))
    (show WShape.has [] (.bool true) .bool = true by first | rfl | decide | simp [WShape.has, WShape.arms, WShape.armsAll])
    (show (WTm.eq .res (.lit (.bool true))).value [] { args := args, res := some (.bool true), after := args } = some (.bool (true == true)) from w_eq_bool (w_res rfl) w_lit) rfl

/-! ### the attachment: holds_open's last premise (the goal 'hc' behind k_head) from a wpAny of the law's body -/
/-- the same from a codeAny of the CALL (for a layer whose function contracts speak of calls) -/
theorem attach_call {l : OpenLaw} {n : Nat} {q : Program} {loose : List Str} {XP : (Str → Option Value) → Heap → Prop} {YP : World → Heap → Prop} {d : DefRec}
    (hn : l.most = some n) (hdf : d.params.defaults = [])
    (call : ∀ (w : World) (s₀ s₁ : Shared) (mg mb : Str → Option Value) (fa : Addr) (o : Obj) (pm cd doc : Value) (a : Addr) (vs : List Value) (ns : List Int),
      Ground q loose [] XP w s₀ mg mb s₁.heap → YP w s₁.heap →
      s₁.heap.get? fa = some o → o.data = .func (docDef d.name d.params d.body d.scope pm cd doc) → s₁.heap.CodeRec cd d.name → mg d.name = some (.ref fa) →
      s₁.heap.get? a = some { cls := .type "list", data := .seq vs.toArray } → IntsAre vs ns → ns.length ≤ n → s₁.gens = #[] →
      codeAny (model l.prog w) callerA (.call (.ref fa) ⟨[.ref a], []⟩) (fun r s' => r = .ok (.ret (.bool true)) ∧ OldK s₁.heap s'.heap ∧ s'.os = s₁.os ∧ AllBare s'.gens) s₁) :
    WalkO q loose XP YP l.row.toRowW d [] (fun f vs => PySem.call f vs) := by
  intro w s₀ s₁ mg mb G Y fa o pm cd doc dV kV ho hd hcd hD hmg hg args vals as hpre hlay hrd hwl hlo
  obtain rfl : dV = .none := Dflts.none hD hdf
  obtain rfl : kV = .none := Dflts.noKw hD
  obtain ⟨a, vs, ns, rfl, rfl, hobj, hints, hlen⟩ := script_of hn hpre hwl
  refine enter_call (codeAny_mono (call w s₀ s₁ mg mb fa o pm cd doc a vs ns G Y ho (fd_plain hd) hcd hmg hobj hints hlen hg) fun r s' hq => ?_)
  obtain ⟨rfl, h2, h3, h4⟩ := hq
  exact ⟨.inl ⟨.bool true, .bool true, [], rfl, fun _ => rfl, .bool true, post_true l _, fun _ => ⟨List.Pairwise.nil, fun _ hm => (nomatch hm)⟩⟩, h2, h3, h4⟩

/-! ### rules over ANY heap (no ledger) from facts about the written part K: the library's own take a ledger (News) for what they write -/
section
variable {prog : Program} {w : World} {A : Around} {E : Value → Shared → Prop} {s : Shared} {K : Frag}

/-! the whole heap as the ledger: makes every rule that writes through a ledger a rule over any heap -/
def noObjs (h : Heap) : Heap := { h with objs := #[] }
def ledger (h : Heap) (L d : Addr) : List (Addr × Obj) := (List.range h.objs.size).filterMap fun a => if a = L ∨ a = d then none else (h.get? a).map fun o => (a, o)
end
end Att

namespace L2
open PySem PySem.Spec PyProof.Rows

theorem vals_ints : ∀ {vs : List Value} {ns : List Int}, IntsAre vs ns → Vals (ns.map V.int) vs
  | _, _, .nil => .nil
  | _, _, .cons n t h => .cons ⟨t, rfl⟩ (vals_ints h)

/-- nothing is tracked but the script, known to the object (or it is an object of the module) -/
def Only (H : Hp) : Prop := ∀ b, H b = none ∨ ∃ o xs, H b = some (.frz o (.lst xs))

/-- THE HEAD: the law's promise, at the heap behind the top. F, the promise of the law's def, may use that base is part of the heap (so K.In base, base.Ns mainGlobals mg stand in Mod) -/
theorem law_call {P : Program} {w : World} {K : PySem.W.Frag} {mg mb : Str → Option Value} {CX : CXT} {k : Nat} {fa a : Addr} {fd : FuncData} {x : Str} {sp : Sp} {s₁ : Shared} {vs : List Value} {ns : List Int}
    (KX : K.In s₁.heap) (hns : s₁.heap.Ns mainGlobals mg) (hb : s₁.heap.Ns builtinsNs mb) (hbb : ∀ x : Str, x ≠ "__name__" → mb x = bootBuiltins x) (hlim : s₁.heap.NoLimit) (hg : s₁.gens = #[])
    (ha : s₁.heap.get? a = some { cls := .type "list", data := .seq vs.toArray }) (hi : IntsAre vs ns) (hl : ns.length ≤ sizeLine) (hr : Room k callerA)
    (F : ∀ base : Heap, K.In base → base.Ns mainGlobals mg → FnOk P w K mg base CX k fa fd [x] sp) (hbind : ∀ (s : Shared) (u : Value), BindsTo s fd ⟨[u], []⟩ [(x, u)])
    (hsp : ∀ H : Hp, Only H → SqL K H a (ns.map V.int) → sp [.ref a] H (fun v _ => v = .bl true) fun _ _ _ => False)
    (hCX : ∀ H e s', CX [] H s₁ (fun _ _ _ => False) e s' → False) :
    codeAny (model P w) callerA (.call (.ref fa) ⟨[.ref a], []⟩) (fun r s' => r = .ok (.ret (.bool true)) ∧ OldK s₁.heap s'.heap ∧ s'.os = s₁.os ∧ AllBare s'.gens) s₁ := by
  have rv := vals_ints hi
  have lenV := hi.length
  -- from an abstract heap in which nothing but the script may be tracked
  have core : ∀ H : Hp, Only H → SqL K H a (ns.map V.int) → HOk P w H s₁.heap → (∀ b, H b ≠ none → b = a) → (H a ≠ none → K.lookup a = none) →
      codeAny (model P w) callerA (.call (.ref fa) ⟨[.ref a], []⟩) (fun r s' => r = .ok (.ret (.bool true)) ∧ OldK s₁.heap s'.heap ∧ s'.os = s₁.os ∧ AllBare s'.gens) s₁ := by
    intro H hO hS hok hA hK
    have base_of : ∀ {b : Addr} {o : Obj}, s₁.heap.get? b = some o → H b = none → (hidT s₁.heap H).get? b = some o := fun e n => hidT_get e n
    have noA : ∀ {b : Addr} {o : Obj} {es : Array DictEntry} {ep : Nat}, s₁.heap.get? b = some o → o.data = .dict es ep → H b = none := fun {b o es ep} e d => by
      cases q : H b with
      | none => rfl
      | some u =>
        have e' : b = a := hA b (by rw [q]; simp)
        subst e'
        rw [ha] at e; cases e
        have d' : Data.seq vs.toArray _ = Data.dict es ep := d
        cases d'
    have nsK : ∀ {b : Addr} {m : Str → Option Value}, s₁.heap.Ns b m → (hidT s₁.heap H).Ns b m := fun {b m} ⟨o, es, ep, e, d, r⟩ => ⟨o, es, ep, base_of e (noA e d), d, r⟩
    have hKb : K.In (hidT s₁.heap H) := fun b o e => base_of (KX b o e) (by
      cases q : H b with
      | none => rfl
      | some u =>
        have e' : b = a := hA b (by rw [q]; simp)
        subst e'
        rw [hK (by rw [q]; simp)] at e; cases e)
    have hM : Mod K mg (hidT s₁.heap H) := ⟨hKb, nsK hns, ⟨mb, nsK hb, hbb⟩, let ⟨mc, h1, h2⟩ := hlim; ⟨mc, nsK h1, h2⟩⟩
    have e0 : Env0 P w K mg (hidT s₁.heap H) callerA [] s₁ H := ⟨rfl, hM, fun b o e => of_hidT e, Nat.le_of_eq (hidT_size _ _), trivial, fun b hb => absurd (show b ∈ ([] : List Addr) from hb) (by simp), hok, .of_eq hg⟩
    refine codeAny_mono ((F _ hKb (nsK hns)).run callerA [] s₁ H ⟨[.ref a], []⟩ [.ref a] [.ref a] _ _ hr e0 (hbind s₁ (.ref a)) (.cons rfl .nil) (hsp H hO hS)) fun r s' h => ?_
    cases r with
    | error e => exact (hCX H e s' h).elim
    | ok fl =>
      cases fl with
      | next => exact False.elim h
      | brk => exact False.elim h
      | cont => exact False.elim h
      | ret u =>
        obtain ⟨v, H', os, bare, un, hok', r', q⟩ := h
        have q' : v = .bl true := q
        subst q'
        obtain rfl : u = Value.bool true := r'
        refine ⟨rfl, OldK.of_keep fun b o e => ?_, os, bare⟩
        cases q : H b with
        | none => exact un.keep b o e q (by intro z; exact absurd (show b ∈ ([] : List Addr) from z) (by simp)) (by simp)
        | some u =>
          rcases hO b with z | ⟨ob, xs, z⟩
          · rw [q] at z; cases z
          · have z2 := un.frzs b ob _ z
            obtain ⟨e1, _⟩ := hok b _ z
            obtain ⟨e2, _⟩ := hok' b _ z2
            rw [e] at e1; cases e1
            exact e2
  cases hk : K.lookup a with
  | some o =>
    -- the script is one of the module's own objects
    have e := KX a o hk
    rw [ha] at e
    cases e
    refine core (fun _ => none) (fun _ => .inl rfl) (.inr ⟨_, vs.toArray, _, hk, rfl, rfl, rfl, by rw [List.size_toArray, lenV]; exact hl, by simpa using rv⟩) (fun b u z => by have z' : (none : Option HO) = some u := z; cases z') (fun b z => absurd rfl z) fun z => absurd rfl z
  | none =>
    refine core (fun b => if b = a then some (.frz { cls := .type "list", data := .seq vs.toArray } (.lst (ns.map V.int))) else none) (fun b => ?_) (.inl (.inr ⟨{ cls := .type "list", data := .seq vs.toArray }, if_pos rfl⟩)) (fun b u z => ?_) (fun b z => ?_) fun _ => hk
    · by_cases hb : b = a
      · exact .inr ⟨_, _, if_pos hb⟩
      · exact .inl (if_neg hb)
    · by_cases hb : b = a
      · have z' := (if_pos hb).symm.trans z
        cases z'
        subst hb
        exact ⟨ha, by rw [List.length_map]; exact hl, vs, _, rv, ha⟩
      · have z' := (if_neg hb).symm.trans z
        cases z'
    · by_cases hb : b = a
      · exact hb
      · exact absurd (if_neg hb) z
end L2

namespace L2
open PySem PySem.Spec PyProof.Rows

abbrev KOf {K : PySem.W.Frag} {h : Heap} (_ : K.In h) : PySem.W.Frag := K

/-- the goal that k_head leaves (case hc), from the law's promise. F gives the function object fd (K's own) once, then the promise over every base -/
theorem walk_of {l : PySem.W.OpenLaw} {n k : Nat} {q : Program} {loose : List Str} {XP : (Str → Option Value) → Heap → Prop} {YP : World → Heap → Prop} {d : DefRec} {K : Params → PySem.W.Frag} {CX : World → CXT} {sp : World → Sp} {x : Str}
    (hn : l.most = some n) (hn2 : n ≤ sizeLine) (hdf : d.params.defaults = []) (hr : Room k callerA)
    (hY : ∀ (w : World) (h : Heap), YP w h → (K w.params).In h)
    (F : ∀ (w : World) (mg : Str → Option Value) (fa : Addr) (h : Heap), (K w.params).In h → h.Ns mainGlobals mg → mg d.name = some (.ref fa) →
      ∃ fd : FuncData, (∀ (s : Shared) (u : Value), BindsTo s fd ⟨[u], []⟩ [(x, u)]) ∧
        ∀ base : Heap, (K w.params).In base → base.Ns mainGlobals mg → FnOk l.prog w (K w.params) mg base (CX w) k fa fd [x] (sp w))
    (hsp : ∀ (w : World) (H : Hp) (a : Addr) (ns : List Int), ns.length ≤ n → Only H → SqL (K w.params) H a (ns.map V.int) → sp w [.ref a] H (fun v _ => v = .bl true) fun _ _ _ => False)
    (hCX : ∀ (w : World) (H : Hp) (s : Shared) (e : Value) (s' : Shared), CX w [] H s (fun _ _ _ => False) e s' → False) :
    PySem.W.WalkO q loose XP YP l.row.toRowW d [] (fun f vs => PySem.call f vs) := by
  refine Att.attach_call hn hdf fun w s₀ s₁ mg mb fa o pm cd doc a vs ns G Y ho hd hcd hmg hobj hints hlen hg => ?_
  have KX := hY w _ Y
  obtain ⟨fd, hb, hF⟩ := F w mg fa _ KX G.T.g hmg
  exact law_call KX G.T.g G.T.b G.T.builtins G.T.nolimit hg hobj hints (Nat.le_trans hlen hn2) hr hF hb (fun H hO hS => hsp w H a ns hlen hO hS) fun H e s' => hCX w H s₁ e s'
end L2

/- THE LAST THEOREM (shape; LID, My.* are yours):
   My.Adr: a structure of the addresses that your layer names (classes, functions); My.Txt K t: a structure (Prop) of the equations over K;
   My.txt_mk : {K} {implicit addresses ..} (e1 : nsIn K mainGlobals "law" = some (some (.ref f))) (e2 : K.lookup f = some ⟨oc, od, .func (fnOf "law" "law" params body scope dV kV doc pm an cdv ct), sl⟩) (e3 : codeIn K cdv "law" = true) .. : ∃ t, My.Txt K t

set_option maxRecDepth 100000 in
set_option maxHeartbeats 0 in
theorem PySem.Challenge.cw_LID_holds : PySem.Challenge.rw_LID.Holds := by
  w_on; o_law; k_head; (case hw => w_witness2)
  k_fill
  refine L2.walk_of (l := PySem.Challenge.rw_LID) (n := 63) (k := 40) (x := "script") (CX := fun w => ..) (sp := fun _ => My.sp_law) rfl (by decide) rfl ⟨rfl, by decide, by decide⟩ (fun w h Y => PySem.W.kIn_of Y) ?F ?S ?C
  case F =>
    intro w mg fa h KX G hmg
    have T : ∃ t, My.Txt (L2.KOf KX) t := by
      dsimp only [L2.KOf]                          -- K must stand as «<heap const> w.params» for k_is
      refine' My.txt_mk ?e1 ?e2 ?e3 ..
      (case e1 => PySem.W.k_is)                    -- in the order: a name -> its address -> its object -> its parts
      (case e2 => PySem.W.k_is)
      ..
    obtain ⟨t, T⟩ := T
    have e0 := hmg.symm.trans (PySem.W.mg_of KX G T.law)
    cases e0                                       -- fa is the law's own address
    exact ⟨_, fun s u => .of_eq rfl, fun base kb nb => My.law_fn T kb nb⟩     -- if «.of_eq rfl» comes too early: refine' ⟨_, ?b, fun base kb nb => My.law_fn T kb nb⟩; exact fun s u => .of_eq rfl
  case S => exact fun w H a ns hl hO hS => ..
  case C => exact ..
(the tactic k_is has no namespace: write k_is) -/

/-! SHORT WORDS over the layer: a def of the text, its body, what a loop and a test want. -/
namespace L2
open PySem PySem.Spec PyProof.Rows

/-! ### the text by places -/
/-- the j-th statement of a class's body -/
def inClass (s : Stmt) (j : Nat) : Stmt := match s with
  | .ClassDef _ _ _ body _ _ _ _ _ _ _ => body.getD j (.Pass ⟨0, 0, 0, 0⟩)
  | _ => .Pass ⟨0, 0, 0, 0⟩
def defArgs (s : Stmt) : Arguments := match s with
  | .FunctionDef _ a _ _ _ _ _ _ _ _ => a
  | _ => { posonlyargs := [], args := [], vararg := none, kwonlyargs := [], kw_defaults := [], kwarg := none, defaults := [] }
def defBody (s : Stmt) : List Stmt := match s with
  | .FunctionDef _ _ b _ _ _ _ _ _ _ => b
  | _ => []
def defScope (s : Stmt) : Scope := match s with
  | .FunctionDef _ _ _ _ _ _ sc _ _ _ => sc
  | _ => { kind := .function, names := [], isGenerator := false, isCoroutine := false }

/-! ### no exception leaves a def -/
abbrev CX0 : CXT := fun _ _ _ _ _ _ => False
abbrev E0 : XK := fun _ _ _ => False
theorem pass0 {X : Cx} : Passes CX0 X E0 := fun _ _ _ _ _ _ _ h => h.elim

/-! ### a def (or method) of the text as it stands behind the top -/
structure Fun (K : PySem.W.Frag) (x qual : Str) (st : Stmt) (f : Addr) (fd : FuncData) : Prop where
  ex : ∃ (oc : Value) (od : Option Addr) (kV doc pm : Value) (an : Option Addr) (cdv ct : Value) (osl : Array (Option Value)),
    fd = PySem.W.fnOf x qual (defArgs st) (defBody st) (defScope st) .none kV doc pm an cdv ct ∧ K.lookup f = some ⟨oc, od, .func fd, osl⟩ ∧ PySem.W.codeIn K cdv qual = true
  kp : PySem.W.keepIn K (.ref f) = true
section
variable {P : Program} {w : World} {K : PySem.W.Frag} {mg : Str → Option Value} {base : Heap}
/-- THE RULE for a def: its body as a term of rules, and the reading of that term -/
theorem Fun.ok {x qual : Str} {st : Stmt} {f : Addr} {fd : FuncData} {N ps : List Str} {k : Nat} {sp : Sp} (F : Fun K x qual st f fd) (S : FnScope N ps (defScope st)) (len : ∀ vs H Q E, sp vs H Q E → vs.length = ps.length)
    (hbody : ∀ (cdv : Value) (A : Around) (outer : List Env) (s : Shared) (H : Hp) (vs : List V) (Q : VK) (E : XK), Room k (A.deeper (envOfC qual (defScope st) s.heap.objs.size f cdv)) → sp vs H Q E →
      ∃ t, PSs (cxOf CX0 P w K mg base N qual (defScope st) f cdv A outer s H E).nox (defBody st) t ∧ t { nx := fun _ H' => Q .non H', rt := Q } (start N vs) H) : FnOk P w K mg base CX0 (k + 1) f fd ps sp := by
  obtain ⟨oc, od, kV, doc, pm, an, cdv, ct, osl, rfl, lk, hcd⟩ := F.ex
  refine fn_of lk hcd S len fun A outer s H vs Q E hr hsp => ?_
  obtain ⟨t, h, q⟩ := hbody cdv A outer s H vs Q E hr hsp
  exact ⟨t, h.nox, q⟩
/-- how its arguments bind (no defaults): h is «fun _ _ _ _ _ _ us hl => match us, hl with | [_, _], _ => rfl», one _ a parameter -/
theorem Fun.binds {x qual : Str} {st : Stmt} {f : Addr} {fd : FuncData} {ps : List Str} (F : Fun K x qual st f fd)
    (h : ∀ (kV doc pm : Value) (an : Option Addr) (cdv ct : Value) (us : List Value), us.length = ps.length → bindArgs (PySem.W.fnOf x qual (defArgs st) (defBody st) (defScope st) .none kV doc pm an cdv ct) ⟨us, []⟩ = pure (ps.zip us)) : Binds K fd ps [] := by
  obtain ⟨oc, od, kV, doc, pm, an, cdv, ct, osl, rfl, lk, hcd⟩ := F.ex
  exact .all (h kV doc pm an cdv ct)
theorem fun_mk {x qual : Str} {st : Stmt} {f : Addr} {oc : Value} {od an : Option Addr} {osl : Array (Option Value)} {kV doc pm cdv ct : Value} (l : K.lookup f = some ⟨oc, od, .func (PySem.W.fnOf x qual (defArgs st) (defBody st) (defScope st) .none kV doc pm an cdv ct), osl⟩)
    (c : PySem.W.codeIn K cdv qual = true) (k : PySem.W.keepIn K (.ref f) = true) : Fun K x qual st f (PySem.W.fnOf x qual (defArgs st) (defBody st) (defScope st) .none kV doc pm an cdv ct) := ⟨⟨oc, od, kV, doc, pm, an, cdv, ct, osl, rfl, l, c⟩, k⟩
end
theorem hu_of {A : Around} {k : Nat} (hr : Room k A) : A.units + 1 < cLine := Nat.lt_of_le_of_lt (Nat.add_le_add_left (by decide : 1 ≤ 64) _) hr.units
theorem small1000 {n : Nat} (h : n ≤ 1000) : n < sizeLine := Nat.lt_of_le_of_lt h (by decide)

/-! ### expressions in short: the name that stands in the i-th slot -/
section
variable {X : Cx}
theorem pv (i : Nat) {x : Str} {pos : Pos} (hN : X.N[i]? = some x := by rfl) (hv : Vis X.env.scope x := by first | exact Or.inl rfl | exact Or.inr (Or.inl rfl) | exact Or.inr (Or.inr rfl)) (hd : (x == ("__debug__" : Str)) = false := by decide)
    (hcd : (x == ("__classdict__" : Str)) = false := by decide) : PE X (.Name x pos) (tVar i) := pe_var hN hv hd hcd
end

/-! ### tests -/
theorem iteF {A B : Prop} (h : B) : if false = true then A else B := by
  rw [if_neg Bool.false_ne_true]
  exact h
theorem iteT {A B : Prop} (h : A) : if true = true then A else B := by
  rw [if_pos rfl]
  exact h
theorem ite2 {c A B : Prop} [Decidable c] (h1 : c → A) (h2 : ¬ c → B) : if c then A else B := by
  by_cases h : c
  · rw [if_pos h]
    exact h1 h
  · rw [if_neg h]
    exact h2 h
/-! ### heaps -/
/-- all that was tracked is as it was -/
def Same (H H' : Hp) : Prop := ∀ b o, H b = some o → H' b = some o
theorem Same.refl (H : Hp) : Same H H := fun _ _ h => h
theorem Same.trans {H H1 H2 : Hp} (a : Same H H1) (b : Same H1 H2) : Same H H2 := fun c o h => b c o (a c o h)
theorem Same.seq {K : PySem.W.Frag} {H H' : Hp} {a : Addr} {xs : List V} (e : Same H H') (h : SqL K H a xs) : SqL K H' a xs := by
  rcases h with (h | ⟨o, h⟩) | h
  · exact .inl (.inl (e _ _ h))
  · exact .inl (.inr ⟨o, e _ _ h⟩)
  · exact .inr h

end L2

namespace GM
/-- the greatest common divisor, as an int -/
def G (a b : Int) : Int := (Int.gcd a b : Int)
theorem G_zero {a : Int} (h : 0 ≤ a) : G a 0 = a := by
  unfold G
  rw [Int.gcd_zero_right]
  omega
theorem G_step (a b : Int) : G b (a % b) = G a b := by
  unfold G
  congr 1
  have e : a % b = a - b * (a / b) := by
    have := Int.emod_add_mul_ediv a b
    omega
  rw [e, Int.gcd_sub_mul_left_right, Int.gcd_comm]
theorem G_pos {a b : Int} (h : 0 < b) : 0 < G a b := by
  unfold G
  have : 0 < Int.gcd a b := Int.gcd_pos_of_ne_zero_right a (by omega)
  omega
theorem G_dvd_l (a b : Int) : G a b ∣ a := Int.gcd_dvd_left a b
theorem G_dvd_r (a b : Int) : G a b ∣ b := Int.gcd_dvd_right a b
theorem G_le_r {a b : Int} (h : 0 < b) : G a b ≤ b := Int.le_of_dvd h (G_dvd_r a b)
/-- an amount in lowest terms -/
structure Amt (t b : Int) : Prop where
  t0 : 0 ≤ t
  b1 : 1 ≤ b
  g : G t b = 1
theorem low_amt {t b : Int} (h0 : 0 ≤ t) (h1 : 1 ≤ b) : Amt (t / G t b) (b / G t b) := by
  have gp := G_pos (a := t) (b := b) (by omega)
  refine ⟨Int.ediv_nonneg h0 (by omega), Int.ediv_pos_of_pos_of_dvd (by omega) (by omega) (G_dvd_r t b), ?_⟩
  unfold G at *
  have := Int.gcd_ediv_gcd_ediv_gcd (i := t) (j := b) (by omega)
  omega
end GM

namespace L2
open PySem PySem.Spec PyProof.Rows
/-! ### isinstance against a built-in type -/
inductive Isi (K : PySem.W.Frag) (H : Hp) : V → String → Bool → Prop where
  | int_int {n} : Isi K H (.int n) "int" true
  | int_bool {n} : Isi K H (.int n) "bool" false
  | int_tuple {n} : Isi K H (.int n) "tuple" false
  | int_str {n} : Isi K H (.int n) "str" false
  | int_list {n} : Isi K H (.int n) "list" false
  | bl_int {b} : Isi K H (.bl b) "int" true
  | bl_bool {b} : Isi K H (.bl b) "bool" true
  | bl_tuple {b} : Isi K H (.bl b) "tuple" false
  | bl_str {b} : Isi K H (.bl b) "str" false
  | str_int {x} : Isi K H (.str x) "int" false
  | str_bool {x} : Isi K H (.str x) "bool" false
  | str_tuple {x} : Isi K H (.str x) "tuple" false
  | str_str {x} : Isi K H (.str x) "str" true
  | non_int : Isi K H .non "int" false
  | non_str : Isi K H .non "str" false
  | non_tuple : Isi K H .non "tuple" false
  | tup_tuple {a xs} : SqT K H a xs → Isi K H (.ref a) "tuple" true
  | tup_int {a xs} : SqT K H a xs → Isi K H (.ref a) "int" false
  | tup_str {a xs} : SqT K H a xs → Isi K H (.ref a) "str" false
  | tup_list {a xs} : SqT K H a xs → Isi K H (.ref a) "list" false
  | lst_tuple {a xs} : SqL K H a xs → Isi K H (.ref a) "tuple" false
  | lst_int {a xs} : SqL K H a xs → Isi K H (.ref a) "int" false
  | lst_str {a xs} : SqL K H a xs → Isi K H (.ref a) "str" false
  | lst_list {a xs} : SqL K H a xs → Isi K H (.ref a) "list" true
section
variable {X : Cx}
theorem call_isi : CallR X (.builtin "isinstance") (fun xs H Q => ∃ x T b, xs = [x, .ty T] ∧ Isi X.K H x T b ∧ Q (.bl b) H) := by
  intro pins s σ H xs us Q I r h
  obtain ⟨x, T, b, rfl, hi, q⟩ := h
  obtain ⟨u, w', rfl, rx, ry⟩ := vals2 r
  cases ry
  have f1 : EP X pins σ Q (.bool b) s := ⟨.bl b, H, I, rfl, q⟩
  have f2 : EP X pins σ Q (.bool b) { s with toks := s.toks + 1 } := ⟨.bl b, H, I.tok _, rfl, q⟩
  cases hi with
  | int_int => obtain ⟨t, rfl⟩ := rx; exact IsiPair.int_int f1
  | int_bool => obtain ⟨t, rfl⟩ := rx; exact IsiPair.int_bool f2
  | int_tuple => obtain ⟨t, rfl⟩ := rx; exact IsiPair.int_tuple f2
  | int_str => obtain ⟨t, rfl⟩ := rx; exact IsiPair.int_str f2
  | int_list => obtain ⟨t, rfl⟩ := rx; exact IsiPair.int_list f2
  | bl_int => cases rx; exact IsiPair.bool_int f1
  | bl_bool => cases rx; exact IsiPair.bool_bool f1
  | bl_tuple => cases rx; exact IsiPair.bool_tuple f2
  | bl_str => cases rx; exact IsiPair.bool_str f2
  | str_int => obtain ⟨t, rfl⟩ := rx; exact IsiPair.str_int f2
  | str_bool => obtain ⟨t, rfl⟩ := rx; exact IsiPair.str_bool f2
  | str_tuple => obtain ⟨t, rfl⟩ := rx; exact IsiPair.str_tuple f2
  | str_str => obtain ⟨t, rfl⟩ := rx; exact IsiPair.str_str f1
  | non_int => cases rx; exact IsiPair.NoneType_int f2
  | non_str => cases rx; exact IsiPair.NoneType_str f2
  | non_tuple => cases rx; exact IsiPair.NoneType_tuple f2
  | tup_tuple hq => cases rx; obtain ⟨its, _, ⟨o, e, c, _⟩, _⟩ := I.tuple hq; exact IsiPair.tuple_tuple e c f1
  | tup_int hq => cases rx; obtain ⟨its, _, ⟨o, e, c, _⟩, _⟩ := I.tuple hq; exact IsiPair.tuple_int e c f2
  | tup_str hq => cases rx; obtain ⟨its, _, ⟨o, e, c, _⟩, _⟩ := I.tuple hq; exact IsiPair.tuple_str e c f2
  | tup_list hq => cases rx; obtain ⟨its, _, ⟨o, e, c, _⟩, _⟩ := I.tuple hq; exact IsiPair.tuple_list e c f2
  | lst_tuple hq => cases rx; obtain ⟨its, _, ⟨o, n, e, c, _⟩, _⟩ := I.list hq; exact IsiPair.list_tuple e c f2
  | lst_int hq => cases rx; obtain ⟨its, _, ⟨o, n, e, c, _⟩, _⟩ := I.list hq; exact IsiPair.list_int e c f2
  | lst_str hq => cases rx; obtain ⟨its, _, ⟨o, n, e, c, _⟩, _⟩ := I.list hq; exact IsiPair.list_str e c f2
  | lst_list hq => cases rx; obtain ⟨its, _, ⟨o, n, e, c, _⟩, _⟩ := I.list hq; exact IsiPair.list_list e c f1
/-! ### is, is not of bools -/
/-! ### == and != of tuples, at any depth: what the comparison tells -/
inductive DEq (K : PySem.W.Frag) (H : Hp) : Nat → V → V → Bool → Prop where
  | flat {n x y} : flatV x = true → flatV y = true → DEq K H n x y (eqV x y)
  | same {n a} : DEq K H n (.ref a) (.ref a) true
  | tup {n a b xs ys} {e : Nat → Bool} : a ≠ b → SqT K H a xs → SqT K H b ys → (∀ (j : Nat) x y, xs[j]? = some x → ys[j]? = some y → DEq K H n x y (e j)) →
      DEq K H (n + 1) (.ref a) (.ref b) ((List.range (min xs.length ys.length)).all e && xs.length == ys.length)
  | lst {n a b xs ys} {e : Nat → Bool} : a ≠ b → SqL K H a xs → SqL K H b ys → (∀ (j : Nat) x y, xs[j]? = some x → ys[j]? = some y → DEq K H n x y (e j)) →
      DEq K H (n + 1) (.ref a) (.ref b) ((List.range (min xs.length ys.length)).all e && xs.length == ys.length)
theorem tups_at {pins : List (Addr × Obj)} {σ : St} {H : Hp} {s : Shared} (I : Inv X pins σ H s) {A : Around} {a b : Addr} {xs ys : List V} {e : Nat → Bool} (hx : SqT X.K H a xs) (hy : SqT X.K H b ys) (hu : A.units < cLine)
    (hd : ∀ (j : Nat) x y u v, xs[j]? = some x → ys[j]? = some y → RelV x u → RelV y v → SeqAt.EqAt A.in1 s u v (e j)) :
    SeqAt.RcAt A s (.ref a) (.ref b) ((List.range (min xs.length ys.length)).all e && xs.length == ys.length) := by
  obtain ⟨its, r, tx, _⟩ := I.tuple hx
  obtain ⟨its', r', ty, _⟩ := I.tuple hy
  have l1 := r.length
  have l2 := r'.length
  have q := SeqAt.RcAt.tuples (A := A) (e := e) tx ty hu (fun j h1 h2 => ?_)
  · rw [List.size_toArray, List.size_toArray, ← l1, ← l2] at q
    exact q
  · rw [List.size_toArray] at h1 h2
    obtain ⟨x, hxj⟩ : ∃ x, xs[j]? = some x := ⟨_, List.getElem?_eq_getElem (by omega)⟩
    obtain ⟨y, hyj⟩ : ∃ y, ys[j]? = some y := ⟨_, List.getElem?_eq_getElem (by omega)⟩
    obtain ⟨u1, hu1, ru1⟩ := r.get hxj
    obtain ⟨u2, hu2, ru2⟩ := r'.get hyj
    have e1 : its.toArray[j] = u1 := by
      have := (List.getElem?_eq_some_iff.mp hu1).2
      simpa using this
    have e2 : its'.toArray[j] = u2 := by
      have := (List.getElem?_eq_some_iff.mp hu2).2
      simpa using this
    rw [e1, e2]
    exact hd j x y u1 u2 hxj hyj ru1 ru2
theorem isList_of {h : Heap} {a : Addr} {its : Array Value} (p : PlainL h a its) : h.IsList a its := by
  obtain ⟨o, n, e, c, _, d⟩ := p
  exact ⟨o, e, c, n, d⟩
theorem lsts_at {pins : List (Addr × Obj)} {σ : St} {H : Hp} {s : Shared} (I : Inv X pins σ H s) {A : Around} {a b : Addr} {xs ys : List V} {e : Nat → Bool} (hx : SqL X.K H a xs) (hy : SqL X.K H b ys) (hu : A.units < cLine)
    (hd : ∀ (j : Nat) x y u v, xs[j]? = some x → ys[j]? = some y → RelV x u → RelV y v → SeqAt.EqAt A.in1 s u v (e j)) :
    SeqAt.RcAt A s (.ref a) (.ref b) ((List.range (min xs.length ys.length)).all e && xs.length == ys.length) := by
  obtain ⟨its, r, tx, _⟩ := I.list hx
  obtain ⟨its', r', ty, _⟩ := I.list hy
  have l1 := r.length
  have l2 := r'.length
  by_cases hl : xs.length = ys.length
  · have q := SeqAt.RcAt.lists (A := A) (e := e) (isList_of tx) (isList_of ty) (by rw [List.size_toArray, List.size_toArray]; omega) hu (fun j h1 h2 => ?_)
    · rw [List.size_toArray, ← l1] at q
      have e1 : ((List.range (min xs.length ys.length)).all e && xs.length == ys.length) = (List.range xs.length).all e := by
        rw [← hl, Nat.min_self, beq_self_eq_true, Bool.and_true]
      rw [e1]
      exact q
    · rw [List.size_toArray] at h1 h2
      obtain ⟨x, hxj⟩ : ∃ x, xs[j]? = some x := ⟨_, List.getElem?_eq_getElem (by omega)⟩
      obtain ⟨y, hyj⟩ : ∃ y, ys[j]? = some y := ⟨_, List.getElem?_eq_getElem (by omega)⟩
      obtain ⟨u1, hu1, ru1⟩ := r.get hxj
      obtain ⟨u2, hu2, ru2⟩ := r'.get hyj
      have e1 : its.toArray[j] = u1 := by
        have := (List.getElem?_eq_some_iff.mp hu1).2
        simpa using this
      have e2 : its'.toArray[j] = u2 := by
        have := (List.getElem?_eq_some_iff.mp hu2).2
        simpa using this
      rw [e1, e2]
      exact hd j x y u1 u2 hxj hyj ru1 ru2
  · have q := SeqAt.RcAt.lists_lengths (A := A) (isList_of tx) (isList_of ty) (by rw [List.size_toArray, List.size_toArray, ← l1, ← l2, bne_iff_ne]; exact hl) hu
    have e1 : ((List.range (min xs.length ys.length)).all e && xs.length == ys.length) = false := by
      rw [beq_eq_false_iff_ne.mpr hl, Bool.and_false]
    rw [e1]
    exact q
theorem DEq.at {pins : List (Addr × Obj)} {σ : St} {H : Hp} {s : Shared} (I : Inv X pins σ H s) {n : Nat} {x y : V} {k : Bool} (d : DEq X.K H n x y k) : ∀ {A : Around} {u v : Value}, A.units + n < cLine → RelV x u → RelV y v → SeqAt.EqAt A s u v k := by
  induction d with
  | flat fx fy => intro A u v _ rx ry; exact eqAt_V rx ry fx fy
  | same => intro A u v _ rx ry; cases rx; cases ry; exact SeqAt.EqAt.same _
  | @tup n a b xs ys e hne hx hy hd ih =>
    intro A u v hu rx ry
    cases rx; cases ry
    exact SeqAt.EqAt.of_refs hne (tups_at I hx hy (by omega) fun j x y u v h1 h2 r1 r2 => ih j x y h1 h2 (by show A.units + 1 + n < cLine; omega) r1 r2)
  | @lst n a b xs ys e hne hx hy hd ih =>
    intro A u v hu rx ry
    cases rx; cases ry
    exact SeqAt.EqAt.of_refs hne (lsts_at I hx hy (by omega) fun j x y u v h1 h2 r1 r2 => ih j x y h1 h2 (by show A.units + 1 + n < cLine; omega) r1 r2)
/-- == of two tuples; the items' answers e -/
def rEqT (K : PySem.W.Frag) : R2 := fun x y H Q => ∃ a b xs ys, ∃ e : Nat → Bool, x = .ref a ∧ y = .ref b ∧ SqT K H a xs ∧ SqT K H b ys ∧ (∀ (j : Nat) x y, xs[j]? = some x → ys[j]? = some y → DEq K H 40 x y (e j)) ∧
  Q (.bl ((List.range (min xs.length ys.length)).all e && xs.length == ys.length)) H
def rNeT (K : PySem.W.Frag) : R2 := fun x y H Q => ∃ a b xs ys, ∃ e : Nat → Bool, x = .ref a ∧ y = .ref b ∧ SqT K H a xs ∧ SqT K H b ys ∧ (∀ (j : Nat) x y, xs[j]? = some x → ys[j]? = some y → DEq K H 40 x y (e j)) ∧
  Q (.bl (!((List.range (min xs.length ys.length)).all e && xs.length == ys.length))) H
theorem op_eqT (hu : X.A.units + 64 < cLine) : OpR X (compareOp .Eq) (rEqT X.K) := by
  intro pins s σ H x y v u Q I rx ry h
  obtain ⟨a, b, xs, ys, e, rfl, rfl, hx, hy, hd, q⟩ := h
  cases rx; cases ry
  exact tups_at I hx hy (by omega) (fun j x y u v h1 h2 r1 r2 => (hd j x y h1 h2).at I (by show X.A.units + 1 + 40 < cLine; omega) r1 r2) X.prog X.w X.xe _ ⟨.bl _, H, I, rfl, q⟩
end
end L2

namespace L2
open PySem PySem.Spec PyProof.Rows
/-! ### a list comprehension of one clause -/
/-- the loop of a comprehension, a turn at a time -/
theorem compLoop_gen {prog : Program} {w : World} {A : Around} {R : Result → Shared → Prop} {s : Shared} {elt target iter : Expr} {ifs : List Expr} {scope : Scope} {pos : Pos} {it acc : Value} {env : Env} (I : Nat → Shared → Prop)
    (turn : ∀ n s, I n s → wpAny (model prog w) A (pyNext it) (fun r s₁ => match r with
      | none => R (.ok .next) s₁
      | some v => wpAny (model prog w) A (letOwnedTupleGo target it v) (fun _ s₁' => wpAny (model prog w) A (assign target env v) (fun _ s₂ =>
          wpAny (model prog w) A (forIn ifs true fun c r => if r = true then do let ok ← isTrue c env (eval c env); pure (ForInStep.yield ok) else pure (ForInStep.yield r)) (fun ok s₃ =>
            if ok = true then wpAny (model prog w) A (eval elt env) (fun x s₄ =>
              wpAny (model prog w) A (call (.builtin "list.append") [acc, x]) (fun _ s₅ => ∃ m, m < n ∧ I m s₅) (fun _ _ => False) s₄) (fun _ _ => False) s₃
            else ∃ m, m < n ∧ I m s₃) (fun _ _ => False) s₂) (fun _ _ => False) s₁') (fun _ _ => False) s₁) (fun _ _ => False) s)
    (n : Nat) (h : I n s) : codeAny (model prog w) A (.compLoop (.ListComp elt [⟨target, iter, ifs, 0⟩] scope pos) 0 it acc env) R s := by
  refine codeAny_loop rfl I (fun n s hI => ?_) n h
  show wpAny _ A ((compTurn (.ListComp elt [⟨target, iter, ifs, 0⟩] scope pos) 0 it acc env).onRaise (fun x => do noteFrame x env; theTreesLotGoes x)) _ _ s
  refine wpAny_noted ?_
  rw [compTurn_list]
  refine wpAny_bind (wpAny_standAt (wpAny_bind (wpAny_mono (turn n s hI) (fun r s₁ h₁ => ?_) fun _ _ z => z.elim)))
  cases r with
  | none => exact wpAny_pure h₁
  | some v =>
    refine wpAny_bind (wpAny_mono h₁ (fun _ s₁' h₁' => ?_) fun _ _ z => z.elim)
    refine wpAny_bind (wpAny_mono h₁' (fun _ s₂ h₂ => wpAny_bind (wpAny_mono h₂ (fun ok s₃ h₃ => ?_) fun _ _ z => z.elim)) fun _ _ z => z.elim)
    cases ok with
    | false => exact wpAny_pure ⟨rfl, h₃⟩
    | true =>
      exact wpAny_bind (wpAny_bind (wpAny_mono h₃ (fun x s₄ h₄ => wpAny_bind (wpAny_mono h₄ (fun _ s₅ h₅ => wpAny_pure (wpAny_pure ⟨rfl, h₅⟩)) fun _ _ z => z.elim)) fun _ _ z => z.elim))
/-- the block's context -/
def blk (X : Cx) (N' : List Str) (scope : Scope) (cl : List (Str × Addr)) (C : Addr) (s₀ : Shared) (H₀ : Hp) (ex : List Addr) (pn : List (Addr × Obj)) : Cx where
  prog := X.prog
  w := X.w
  K := X.K
  mg := X.mg
  base := X.base
  A := X.A
  N := N'
  s₀ := s₀
  H₀ := H₀
  env := compEnvC scope cl C X.env
  outer := X.stack
  stack := X.stack
  ex := ex
  fn := fun _ => false
  calm := X.calm
  pn := pn
  xe := fun _ _ => False
structure ClOk (X : Cx) (scope : Scope) (cl : List (Str × Addr)) : Prop where
  run : closureFor scope X.env = pure cl
  sub : ∀ x c, cl.lookup x = some c → X.env.cells.lookup x = some c
  has : ∀ x, ((relabel scope X.env).names.lookup x = some .cell ∨ (relabel scope X.env).names.lookup x = some .free) → ∃ c, cl.lookup x = some c
/-- the names that the block takes over stand in cells -/
structure BlkN (X : Cx) (N' : List Str) (scope : Scope) (cl : List (Str × Addr)) (σ σ' : St) : Prop where
  len : σ'.length = N'.length
  from' : ∀ (i : Nat) (x : Str) (v : V), N'[i]? = some x → σ'[i]? = some (some v) → ∃ j : Nat, X.N[j]? = some x ∧ σ[j]? = some (some v) ∧ Vis X.env.scope x ∧ X.env.kindOf x ≠ some .local ∧
    ((relabel scope X.env).names.lookup x = some .cell ∨ (relabel scope X.env).names.lookup x = some .free)
section
variable {X : Cx} {pins : List (Addr × Obj)} {σ σ' : St} {H : Hp} {s : Shared}
theorem blk_start {N' : List Str} {scope : Scope} {cl : List (Str × Addr)} {fp : List Addr} {h₁ : Heap} {t' : Nat} (I : Inv X pins σ H s) (hkind : scope.kind = .function) (hcl : ClOk X scope cl) (hN : BlkN X N' scope cl σ σ') (hf : ∀ b ∈ fp, FpOk X pins H b) (hfo : ∀ b ∈ fp, b < s.heap.objs.size)
    (hns : h₁.Ns s.heap.objs.size (fun _ => none)) (hk : ∀ b o, s.heap.get? b = some o → h₁.get? b = some o) :
    Inv (blk X N' scope cl s.heap.objs.size s H fp (X.pn ++ pins)) [] σ' H { s with heap := h₁, toks := t' } := by
  have hfs : ∀ b, b ∉ (X.env.locals :: X.fs) → b ∉ frs X.stack := fun b hb z => hb (I.stkSub b z)
  refine ⟨⟨I.ok.mod, hkind, I.ok.glob, I.ok.blt, Nat.le_refl _, ?_, hcl.has, fun _ _ h => absurd h (by intro z; cases z), I.ok.hd, I.ok.frames, .inl rfl, ?_, I.bs, Nat.le_trans I.ok.bsz I.sz, ?_, ?_, I.stack, I.stkFree⟩,
    rfl, I.bare, Un.kept hk, ⟨_, hns, ?_⟩, ?_, I.hok.fresh (Nat.le_refl _), fun x c e => I.freeC x c (hcl.sub x c e), ?_, I.hok.kept hk, hN.len⟩
  · intro x y c h1 h2
    exact I.ok.inj x y c (hcl.sub x c h1) (hcl.sub y c h2)
  · intro b hb
    exact ⟨Nat.ne_of_lt (hfo b hb), fun x c e => (hf b hb).2.2.2.2.1 x c (hcl.sub x c e)⟩
  · intro b o e hb
    rcases (hf b hb).2.2.2.1 with q | q
    · exact I.ok.noex b o e q
    · exact absurd (Nat.lt_of_lt_of_le (Heap.lt_size e) (Nat.le_trans I.ok.bsz q)) (Nat.lt_irrefl _)
  · intro b hb
    refine hfs b fun z => ?_
    rcases List.mem_cons.mp z with z | z
    · exact (hf b hb).2.1 z
    · exact (hf b hb).2.2.1 z
  · intro i x v h1 h2 _
    obtain ⟨j, hj, hσ, hv, hnl, hk'⟩ := hN.from' i x v h1 h2
    obtain ⟨m, hn, hl⟩ := I.loc
    obtain ⟨u, r, l⟩ := hl j x v hj hσ hv
    refine ⟨u, r, .inr ⟨hk', ?_⟩⟩
    obtain ⟨c, hc⟩ := hcl.has x hk'
    rcases l with ⟨hloc, _⟩ | ⟨_, c', hc', hcell⟩
    · exact absurd hloc hnl
    · have e := hcl.sub x c hc
      rw [hc'] at e
      cases e
      obtain ⟨o, ho, hd⟩ := hcell
      exact ⟨_, hc, o, hk _ _ ho, hd⟩
  · intro x c e
    obtain ⟨v, o, ho, hd⟩ := I.cell x c (hcl.sub x c e)
    exact ⟨v, o, hk _ _ ho, hd⟩
  · intro p hp
    rw [show (blk X N' scope cl s.heap.objs.size s H fp (X.pn ++ pins)).pn = X.pn ++ pins from rfl, List.append_nil] at hp
    obtain ⟨a1, a2, a3, a4, a5⟩ := I.pin p hp
    refine ⟨hk _ _ a1, a2, Nat.ne_of_lt (Heap.lt_size a1), hfs _ fun z => ?_, a5⟩
    rcases List.mem_cons.mp z with z | z
    · exact a3 z
    · exact a4 z
theorem blk_end {N' : List Str} {scope : Scope} {cl : List (Str × Addr)} {fp : List Addr} {pl : List (Addr × Obj)} {H' : Hp} {s' : Shared} {h'' : Heap} (I : Inv X pins σ H s) (hf : ∀ b ∈ fp, FpOk X pins H b)
    (J : Inv (blk X N' scope cl s.heap.objs.size s H fp (X.pn ++ pins)) pl σ' H' s') (hs : Heap.SameBut s.heap.objs.size s'.heap h'') : Inv X pins σ H' { s' with heap := h'' } := by
  have hne : ∀ b o, s.heap.get? b = some o → b ≠ s.heap.objs.size := fun b o e => Nat.ne_of_lt (Heap.lt_size e)
  have hC : H' s.heap.objs.size = none := J.free
  have ub : Un (frs X.stack) fp H H' s.heap s'.heap := J.base
  have u : Un (frs X.stack) fp H H' s.heap h'' := {
    keep := fun b o e n hb hx => hs.extBut b o (hne b o e) (ub.keep b o e n hb hx)
    slot := fun b o e n hb hx => by
      obtain ⟨sl, q⟩ := ub.slot b o e n hb hx
      exact ⟨sl, hs.extBut b _ (hne b o e) q⟩
    free := ub.free
    there := fun b o e hx => by
      obtain ⟨o', q⟩ := ub.there b o e hx
      exact ⟨o', hs.extBut b _ (hne b o e) q⟩
    tups := ub.tups
    frzs := ub.frzs
    tbls := ub.tbls }
  have hok : HOk X.prog X.w H' h'' := fun a o e => (J.hok a o e).stay (fun b ob hb q => hs.extBut b ob (fun z => by
    rw [z] at hb
    rcases hb with hb | hb
    · rw [← hb, hC] at e; cases e
    · rw [hC] at hb; cases hb) q) (fun _ h => h) (fun _ _ h => h)
  exact I.call' (s' := { s' with heap := h'' }) J.os u hok J.bare fun b hb => by
    obtain ⟨f0, f1, f2, f3, f4, f5⟩ := hf b hb
    exact ⟨f3, f1, f4, f5⟩
end
end L2

namespace L2
open PySem PySem.Spec PyProof.Rows
/-- the tests of a clause -/
def PIfs (X : Cx) (ifs : List Expr) (t : TT) : Prop :=
  ∀ (pins : List (Addr × Obj)) (s : Shared) (σ : St) (H : Hp) (Q : Bool → Hp → Prop), Inv X pins σ H s → t σ H Q →
    wpAny (model X.prog X.w) X.A (forIn ifs true fun c r => if r = true then do let ok ← isTrue c X.env (eval c X.env); pure (ForInStep.yield ok) else pure (ForInStep.yield r)) (TP X pins σ Q) X.xe s
def tNoIf : TT := fun _ H Q => Q true H
theorem pifs_nil {X : Cx} : PIfs X [] tNoIf := fun _ _ _ H _ I h => wpAny_tests_nil ⟨H, I, h⟩
theorem pifs_one {X : Cx} {c : Expr} {t : TT} (h : PT X c t) : PIfs X [c] t := fun pins s σ H Q I hw => wpAny_tests_one (h pins s σ H Q I hw)
/-- the slots that were filled are as they were -/
structure Keep (σa σb : St) : Prop where
  len : σb.length = σa.length
  at' : ∀ (i : Nat) (v : V), σa[i]? = some (some v) → σb[i]? = some (some v)
theorem Keep.refl (σ : St) : Keep σ σ := ⟨rfl, fun _ _ h => h⟩
theorem Keep.set {σa σb : St} {i : Nat} {v : V} (k : Keep σa σb) (h : σa[i]? = some none) : Keep σa (σb.set i (some v)) := by
  refine ⟨by rw [List.length_set]; exact k.len, fun j u e => ?_⟩
  have hj : i ≠ j := by
    rintro rfl
    rw [h] at e
    cases e
  rw [List.getElem?_set_ne hj]
  exact k.at' j u e
def tComp (σf : St → St) (wi : TI) (g : TG) (tt : TT) (te : TE) : TE := fun σ H Q => wi σ H fun J H1 => ∀ D, H1 D = none → ∃ W : Nat → Nat → List V → Hp → Prop, (∃ m, W 0 m [] (upd H1 D (.lst []))) ∧
  ∀ i m ys H, W i m ys H → H D = some (.lst ys) ∧ ys.length < sizeLine ∧
    ((J.stop i H ∧ Q (.ref D) H) ∨ (J.go i H ∧ ∀ x H', J.yld i H x H' → g x (σf σ) H' fun σ2 H2 => Keep (σf σ) σ2 ∧ tt σ2 H2 fun b H3 =>
      if b = true then te σ2 H3 fun y H4 => H4 D = some (.lst ys) ∧ ∃ m', m' < m ∧ W (i + 1) m' (ys ++ [y]) (upd H4 D (.lst (ys ++ [y]))) else ∃ m', m' < m ∧ W (i + 1) m' ys H3))
theorem pe_comp {X : Cx} {elt tg iter : Expr} {ifs : List Expr} {scope : Scope} {pos : Pos} {N' : List Str} {cl : List (Str × Addr)} {wi : TI} {g : TG} {tt : TT} {te : TE} (σf : St → St)
    (hc : X.calm = true) (hkind : scope.kind = .function) (hcell : ∀ y ∈ scope.names, y.2 ≠ .cell) (hnames : ∀ y ∈ scope.names, y.2 = .local → scope.names.lookup y.1 = some .local) (hcl : ClOk X scope cl)
    (hN : ∀ σ : St, σ.length = X.N.length → BlkN X N' scope cl σ (σf σ)) (hi : PI X tg iter wi)
    (hg : ∀ C s₀ H₀ ex pn, PG (blk X N' scope cl C s₀ H₀ ex pn) tg g) (ht : ∀ C s₀ H₀ ex pn, PIfs (blk X N' scope cl C s₀ H₀ ex pn) ifs tt) (he : ∀ C s₀ H₀ ex pn, PE (blk X N' scope cl C s₀ H₀ ex pn) elt te)
    (hs : ∀ x, foldedSetIterable iter X.env x = pure x := by intro _; rfl) : PE X (.ListComp elt [⟨tg, iter, ifs, 0⟩] scope pos) (tComp σf wi g tt te) := by
  intro pins s σ H Q I h
  rw [eval_ListComp]
  refine wpAny_comprehension_free (use := none) rfl hs hcl.run hkind hnames (thn (hi pins s σ H _ I h) fun v s1 h1 => thn h1 fun itv s2 h2 => ?_)
  obtain ⟨it, fp, tn, J, H2, rfl, I2, T, st2, f2, q⟩ := h2
  refine wpAny_newObj_type (wpAny_newFunctionEnv hcell (by intro y hy; simp at hy) (fun h₁ hns₁ hsb₁ => ?_) hkind)
  dsimp only at hns₁ hsb₁ ⊢
  have hfo : ∀ b ∈ fp, b < s2.heap.objs.size := fun b hb => by
    obtain ⟨o, e, _⟩ := T.obj _ _ st2 b hb
    exact Heap.lt_size e
  have hDf : H2 s2.heap.objs.size = none := I2.hok.fresh (Nat.le_refl _)
  obtain ⟨W, ⟨m0, w0⟩, turn⟩ := q s2.heap.objs.size hDf
  have I3 : Inv X pins σ (upd H2 s2.heap.objs.size (.lst [])) { s2 with heap := s2.heap.push { cls := .type "list", data := .seq ([] : List Value).toArray } } := I2.lnew (its := []) (t' := s2.toks) .nil (Nat.zero_le _)
  have f3 : ∀ b ∈ fp, FpOk X pins (upd H2 s2.heap.objs.size (.lst [])) b := fun b hb => ⟨by rw [upd_ne (Nat.ne_of_lt (hfo b hb))]; exact (f2 b hb).1, (f2 b hb).2⟩
  generalize hD : s2.heap.objs.size = D at *
  generalize hs3 : ({ s2 with heap := s2.heap.push { cls := .type "list", data := .seq ([] : List Value).toArray } } : Shared) = s3 at *
  have hh3 : s3.heap = s2.heap.push { cls := .type "list", data := .seq ([] : List Value).toArray } := by rw [← hs3]
  have hsz3 : s2.heap.objs.size < s3.heap.objs.size := by rw [hh3, Heap.size_push]; exact Nat.lt_succ_self _
  have e3 : ∀ h t, ({ s2 with heap := h, toks := t } : Shared) = { s3 with heap := h, toks := t } := fun h t => by rw [← hs3]
  rw [← hh3] at hns₁ hsb₁ ⊢
  have hk3 : ∀ b o, s3.heap.get? b = some o → h₁.get? b = some o := fun b o e => hsb₁.extBut b o (Nat.ne_of_lt (Heap.lt_size e)) (Heap.get?_push_of_some _ e)
  have I4 := blk_start (t' := s3.toks) I3 hkind hcl (hN σ I.len) f3 (fun b hb => Nat.lt_trans (hfo b hb) (hD ▸ hsz3)) (hns := by simpa using hns₁) hk3
  generalize hB : blk X N' scope cl s3.heap.objs.size s3 (upd H2 D (.lst [])) fp (X.pn ++ pins) = B at *
  have hBp : B.prog = X.prog := by rw [← hB]; rfl
  have hBw : B.w = X.w := by rw [← hB]; rfl
  have hBK : B.K = X.K := by rw [← hB]; rfl
  have hBA : B.A = X.A := by rw [← hB]; rfl
  have hBc : B.calm = true := by rw [← hB]; exact hc
  have hBe : B.env = compEnvC scope cl s3.heap.objs.size X.env := by rw [← hB]; rfl
  have hBx : B.xe = fun _ _ => False := by rw [← hB]; rfl
  have hGB : PG B tg g := hB ▸ hg _ _ _ _ _
  have hTB : PIfs B ifs tt := hB ▸ ht _ _ _ _ _
  have hEB : PE B elt te := hB ▸ he _ _ _ _ _
  have stat : ∀ {H' : Hp}, (∀ b ∈ fp, H' b = none) → ∀ b ∈ fp, FpOk B [] H' b := fun {H'} hn b hb => by
    obtain ⟨f0, f1, f2', f3', f4, f5⟩ := f3 b hb
    rw [← hB]
    refine ⟨hn b hb, Nat.ne_of_lt (Nat.lt_trans (hfo b hb) (hD ▸ hsz3)), fun z => ?_, .inl hb, fun x c e => f4 x c (hcl.sub x c e), fun p hp => ?_⟩
    · rcases List.mem_cons.mp (I.stkSub b z) with z | z
      · exact f1 z
      · exact f2' z
    · rw [show (blk X N' scope cl s3.heap.objs.size s3 (upd H2 D (.lst [])) fp (X.pn ++ pins)).pn = X.pn ++ pins from rfl, List.append_nil] at hp
      exact f5 p hp
  have loop : ∀ s4 : Shared, Inv B [] (σf σ) (upd H2 D (.lst [])) s4 → tn 0 s4.heap →
      codeAny (model X.prog X.w) X.A (.compLoop (.ListComp elt [⟨tg, iter, ifs, 0⟩] scope pos) 0 (.ref it) (.ref D) (compEnvC scope cl s3.heap.objs.size X.env)) (compPost (model X.prog X.w) X.A X.xe none (EP X pins σ Q) (.ref D) s3.heap.objs.size) s4 := by
    intro s4 I4 st4
    refine compLoop_gen (I := fun n s' => ∃ i ys H', Inv B [] (σf σ) H' s' ∧ tn i s'.heap ∧ (∀ b ∈ fp, H' b = none) ∧ W i n ys H') ?_ m0 ⟨0, [], _, I4, st4, fun b hb => (f3 b hb).1, w0⟩
    rintro n s5 ⟨i, ys, H5, I5, st5, fr5, w5⟩
    obtain ⟨hD5, hlen5, alt⟩ := turn i n ys H5 w5
    rcases alt with ⟨stop, qn⟩ | ⟨go, step⟩
    · have z := T.done B hBp hBw hBK hBc i [] s5 (σf σ) H5 (fun _ _ => False) I5 (stat fr5) st5 stop
      rw [hBA] at z
      refine thn z fun r s6 ⟨hr, I6⟩ => ?_
      subst hr
      obtain ⟨m6, hn6, _⟩ := I6.loc
      rw [hBe] at hn6
      refine ⟨m6, hn6, fun h' hs' => ?_⟩
      subst hB
      exact ⟨.ref D, H5, blk_end I3 f3 I6 hs', rfl, qn⟩
    · have z := T.item B hBp hBw hBK hBc i [] s5 (σf σ) H5 (fun _ _ => False) I5 (stat fr5) st5 go
      rw [hBA] at z
      refine thn z fun r s6 ⟨u, hr, h6⟩ => ?_
      subst hr
      refine thn h6 fun _ s7 ⟨x, H7, I7, r7, y7, st7, fr7⟩ => ?_
      have I7' := I7.pinned (stat fr7) (T.obj _ _ st7)
      have z8 := hGB _ s7 (σf σ) H7 x u _ I7' r7 (step x H7 y7)
      rw [hBp, hBw, hBA, hBe, hBx] at z8
      refine thn z8 fun _ s8 ⟨σ8, H8, I8, k8, q8⟩ => ?_
      have z9 := hTB _ s8 σ8 H8 _ I8 q8
      rw [hBp, hBw, hBA, hBe, hBx] at z9
      refine thn z9 fun ok s9 ⟨H9, I9, q9⟩ => ?_
      have again : ∀ {ys' : List V} {H' : Hp} {s' : Shared}, Inv B ([] ++ pinsAt fp s7.heap) σ8 H' s' → (∃ m', m' < n ∧ W (i + 1) m' ys' H') → ∃ m, m < n ∧ ∃ i ys H', Inv B [] (σf σ) H' s' ∧ tn i s'.heap ∧ (∀ b ∈ fp, H' b = none) ∧ W i m ys H' := fun {ys' H' s'} J ⟨m', hm, w'⟩ => by
        refine ⟨m', hm, i + 1, ys', H', J.unpinned.weak k8.len.symm k8.at', T.keep _ _ _ st7 fun b hb o e => (J.pin (b, o) (List.mem_append_right _ (List.mem_append_right _ (mem_pinsAt hb e)))).1, fun b hb => ?_, w'⟩
        obtain ⟨o, e, d⟩ := T.obj _ _ st7 b hb
        exact (J.pin (b, o) (List.mem_append_right _ (List.mem_append_right _ (mem_pinsAt hb e)))).2.1
      cases ok with
      | false => exact again I9 q9
      | true =>
        have z10 := hEB _ s9 σ8 H9 _ I9 q9
        rw [hBp, hBw, hBA, hBe, hBx] at z10
        refine thn z10 fun y10 s10 ⟨y, H10, I10, r10, hD10, q10⟩ => ?_
        have z11 := mt_append (X := B) _ s10 σ8 H10 (.ref D) [y] (.ref D) [y10] (fun _ H' => ∃ m', m' < n ∧ W (i + 1) m' (ys ++ [y]) H') I10 rfl (.cons r10 .nil) ⟨D, ys, y, rfl, rfl, hD10, hlen5, q10⟩
        rw [hBp, hBw, hBA, hBx] at z11
        refine thn z11 fun _ s11 ⟨_, H11, I11, _, q11⟩ => again I11 q11
  have st4 : tn 0 ({ s3 with heap := h₁, toks := s3.toks } : Shared).heap := T.keep _ _ _ st2 fun b hb o e => hk3 b o (by rw [hh3]; exact Heap.get?_push_of_some _ e)
  have L4 := loop _ I4 st4
  subst hs3
  exact codeAny_compStart_list L4 (T.self _ 0 _ _ _ st4 L4)
end L2

namespace L2
open PySem PySem.Spec PyProof.Rows
/-! ### large ints: sizes in bits -/
def Bt (n : Nat) (x : Int) : Prop := x.natAbs < 2 ^ n
theorem Bt.bits {n : Nat} {x : Int} (h : Bt n x) : Builtin.Int.intBits x ≤ n := intBits_le_iff.mpr h
theorem Bt.of_bits {n : Nat} {x : Int} (h : Builtin.Int.intBits x ≤ n) : Bt n x := intBits_le_iff.mp h
theorem Bt.mono {m n : Nat} {x : Int} (h : Bt m x) (hn : m ≤ n) : Bt n x := Nat.lt_of_lt_of_le h (Nat.pow_le_pow_right (by decide) hn)
theorem Bt.mul {m n : Nat} {x y : Int} (h : Bt m x) (h' : Bt n y) : Bt (m + n) (x * y) := .of_bits (intBits_mul_le h.bits h'.bits)
theorem Bt.add {m : Nat} {x y : Int} (h : Bt m x) (h' : Bt m y) : Bt (m + 1) (x + y) := .of_bits (by have := intBits_add_le h.bits h'.bits; rwa [Nat.max_self] at this)
theorem Bt.le {m : Nat} {x y : Int} (h : Bt m y) (h0 : 0 ≤ x) (hy : x ≤ y) : Bt m x := by
  unfold Bt at *
  omega
theorem Bt.div {m : Nat} {x y : Int} (h : Bt m x) (h0 : 0 ≤ x) : Bt m (x / y) := by
  unfold Bt at *
  have := Int.natAbs_ediv_le_natAbs x y
  omega
theorem log_of {n : Nat} {x : Int} (h : Bt n x) (hp : 0 < x) (hn : n ≤ 9000) : x.natAbs.log2 < 9000 := by
  have : x.natAbs.log2 < n := (Nat.log2_lt (by omega)).mpr h
  omega
def CMulB (i j : Int) : Prop := Bt 1000000 i ∧ Bt 1000000 j
def CDivB (_i j : Int) : Prop := 0 < j ∧ Bt 9000 j
def CPowB (i j : Int) : Prop := 0 ≤ j ∧ j ≤ 1000 ∧ Bt 1000 i
section
variable {X : Cx}
theorem op_mulB : OpR X (binaryOp .Mult) (rI CMulB fun i j => .int (i * j)) := opI fun _ _ _ _ _ _ _ hc q => mul_int q (.of_bits (Nat.le_trans hc.1.bits (by decide)) (Nat.le_trans hc.2.bits (by decide)))
theorem op_fdivB : OpR X (binaryOp .FloorDiv) (rI CDivB fun i j => .int (i / j)) := opI fun i j _ _ _ _ _ hc q => by
  have h1 : (0 : Int) < j := hc.1
  rw [← Int.fdiv_eq_ediv_of_nonneg i (Int.le_of_lt h1)] at q
  exact floordiv_int (by omega) q (.inl (PyProof.noPylong_of_log2 (log_of hc.2 h1 (Nat.le_refl _))))
theorem op_powB : OpR X (binaryOp .Pow) (rI CPowB fun i j => .int (i ^ j.toNat)) := opI fun i j _ _ _ _ _ hc q => by
  obtain ⟨h0, h1, h2⟩ := hc
  refine PyProof.Rows.pow_int h0 ?_ q
  have b := h2.bits
  have e : (2 : Int) ^ 27 = 134217728 := by decide
  have := Int.mul_le_mul (show (Builtin.Int.intBits i : Int) ≤ 1000 by omega) h1 h0 (by decide)
  omega
/-! ### tuples of ints -/
theorem deq_ints {K : PySem.W.Frag} {H : Hp} {n : Nat} (ns ms : List Int) : ∀ (j : Nat) x y, (ns.map V.int)[j]? = some x → (ms.map V.int)[j]? = some y → DEq K H n x y (ns[j]? == ms[j]?) := by
  intro j x y h1 h2
  rw [List.getElem?_map] at h1 h2
  cases e1 : ns[j]? with
  | none => rw [e1] at h1; cases h1
  | some a =>
    cases e2 : ms[j]? with
    | none => rw [e2] at h2; cases h2
    | some b =>
      rw [e1] at h1
      rw [e2] at h2
      cases h1
      cases h2
      have : (some a == some b) = eqV (V.int a) (V.int b) := by
        show (a == b) = (a == b)
        rfl
      rw [this]
      exact DEq.flat rfl rfl
theorem all_ints : ∀ (ns ms : List Int), ((List.range (min ns.length ms.length)).all (fun j => ns[j]? == ms[j]?) && ns.length == ms.length) = decide (ns = ms) := by
  intro ns ms
  rw [Bool.eq_iff_iff]
  simp only [Bool.and_eq_true, List.all_eq_true, List.mem_range, beq_iff_eq, decide_eq_true_eq]
  constructor
  · rintro ⟨h, hl⟩
    refine List.ext_getElem? fun i => ?_
    by_cases hi : i < ns.length
    · exact h i (by omega)
    · rw [List.getElem?_eq_none (by omega), List.getElem?_eq_none (by omega)]
  · rintro rfl
    exact ⟨fun _ _ => rfl, rfl⟩
def rEqI (K : PySem.W.Frag) : R2 := fun x y H Q => ∃ a b, ∃ ns ms : List Int, x = .ref a ∧ y = .ref b ∧ SqT K H a (ns.map V.int) ∧ SqT K H b (ms.map V.int) ∧ Q (.bl (decide (ns = ms))) H
def rNeI (K : PySem.W.Frag) : R2 := fun x y H Q => ∃ a b, ∃ ns ms : List Int, x = .ref a ∧ y = .ref b ∧ SqT K H a (ns.map V.int) ∧ SqT K H b (ms.map V.int) ∧ Q (.bl (!decide (ns = ms))) H
theorem op_eqI (hu : X.A.units + 64 < cLine) : OpR X (compareOp .Eq) (rEqI X.K) := by
  intro pins s σ H x y v u Q I rx ry h
  obtain ⟨a, b, ns, ms, rfl, rfl, hx, hy, q⟩ := h
  refine op_eqT hu pins s σ H _ _ v u Q I rx ry ⟨a, b, _, _, fun j => ns[j]? == ms[j]?, rfl, rfl, hx, hy, deq_ints ns ms, ?_⟩
  rw [List.length_map, List.length_map, all_ints]
  exact q
end
end L2

namespace L2
open PySem PySem.Spec PyProof.Rows
section
variable {X : Cx}
/-- sum of a list of ints -/
theorem call_sum (hc : X.calm = true) : CallR X (.builtin "sum") (fun xs H Q => ∃ p, ∃ ns : List Int, xs = [.ref p] ∧ SqL X.K H p (ns.map V.int) ∧ Q (.int ns.sum) H) := by
  intro pins s σ H xs us Q I r h
  obtain ⟨p, ns, rfl, hq, q⟩ := h
  obtain ⟨u, rfl, rx⟩ := vals1 r
  cases rx
  obtain ⟨its, r', pl, hz⟩ := I.list hq
  have hi := intsAre_of r'
  obtain ⟨ys, e⟩ := (hi.allInts).items
  have hl : s.heap.IsList p (intItems ys) := e ▸ pl.isList
  refine sum_intListG (I.ok.hd hc) hl fun h' tk t' hk => ?_
  refine ⟨.int ns.sum, H, I.kept hk, ⟨t', ?_⟩, q⟩
  have e1 : numsOf its = ns := hi.numsOf
  have e2 : numsOf (intItems ys).toList = numsOf its := by rw [← e]
  rw [nums_intItems, e1] at e2
  rw [preSum_eq, List.take_of_length_le (by simp), e2]
/-- an item of the tuple that a name holds -/
def tIt (K : PySem.W.Frag) (i k : Nat) : TE := fun σ H Q => ∃ p xs v, σ[i]? = some (some (.ref p)) ∧ SqT K H p xs ∧ xs[k]? = some v ∧ Q v H
theorem pit (i k : Nat) {x : Str} {p q : Pos} {j : Nat} (hN : X.N[i]? = some x := by rfl) (hv : Vis X.env.scope x := by first | exact Or.inl rfl | exact Or.inr (Or.inl rfl) | exact Or.inr (Or.inr rfl)) (hd : (x == ("__debug__" : Str)) = false := by decide)
    (hcd : (x == ("__classdict__" : Str)) = false := by decide) {pos : Pos} : PE X (.Subscript (.Name x p) (.Constant (.int (k : Int)) j q) pos) (tIt X.K i k) := by
  intro pins s σ H Q I h
  obtain ⟨a, xs, v, e, hs, hk, q⟩ := h
  exact pe_ix ix_tup (pe_var hN hv hd hcd) pe_int (fun _ _ => rfl) pins s σ H Q I ⟨_, e, a, xs, (k : Int), v, rfl, rfl, hs, atI_nat hk, q⟩
/-- a def of the text that may be called by its name -/
structure Cal (P : Program) (w : World) (K : PySem.W.Frag) (mg : Str → Option Value) (base : Heap) (CX : CXT) (k : Nat) (x : Str) (ps : List Str) (sp : Sp) : Prop where
  ex : ∃ (f : Addr) (fd : FuncData), mg x = some (.ref f) ∧ PySem.W.keepIn K (.ref f) = true ∧ Binds K fd ps [] ∧ FnOk P w K mg base CX k f fd ps sp
theorem pe_cal {CX : CXT} {k : Nat} {x : Str} {ps : List Str} {sp : Sp} {E : XK} {e : Expr} {es : List Expr} {t : TA} {p pos : Pos} (C : Cal X.prog X.w X.K X.mg X.base CX k x ps sp) (hr : Room k X.A) (hg : Gl X x) (hx : Passes CX X E)
    (ha : PA X (e :: es) t) (hdb : (x == ("__debug__" : Str)) = false := by decide) (he : starEach (e :: es) X.env = (false, eval e X.env) :: starEach es X.env := by rfl) (hpl : (backTo pos (starEach es X.env)).any (·.1) = false := by rfl) :
    PE X (.Call (.Name x p) (e :: es) [] pos) (tCall sp [] E t) := by
  obtain ⟨f, fd, hm, hk, hb, F⟩ := C.ex
  exact pe_call F hr hg hm hk hb .nil hx ha hdb he hpl
theorem Cal.mono {P : Program} {w : World} {K : PySem.W.Frag} {mg : Str → Option Value} {base : Heap} {CX : CXT} {j k : Nat} {x : Str} {ps : List Str} {sp : Sp} (C : Cal P w K mg base CX j x ps sp) (h : j ≤ k) : Cal P w K mg base CX k x ps sp := by
  obtain ⟨f, fd, hm, hk, hb, F⟩ := C.ex
  exact ⟨f, fd, hm, hk, hb, F.mono h⟩
end
theorem Same.tup {K : PySem.W.Frag} {H H' : Hp} {a : Addr} {xs : List V} (e : Same H H') (h : SqT K H a xs) : SqT K H' a xs := by
  rcases h with (h | ⟨o, h⟩) | h
  · exact .inl (.inl (e _ _ h))
  · exact .inl (.inr ⟨o, e _ _ h⟩)
  · exact .inr h
theorem Same.upd {H : Hp} {a : Addr} {o : HO} (h : H a = none) : Same H (upd H a o) := fun b u e => by
  rw [upd_ne (ne_of_none e h)]
  exact e
/-- a new tuple of ints comes back, all else as it was -/
def RetT (H : Hp) (Q : VK) (ns : List Int) : Prop := ∀ p H', Same H H' → H' p = some (.tup (ns.map V.int)) → Q (.ref p) H'
end L2

namespace L2
open PySem PySem.Spec PyProof.Rows PySem.W
/-- an own class of errors, as the top has made it -/
structure ExK (K : Frag) (C : Addr) : Prop where
  ga : findIn K (.ref C) "__getattribute__" = some (some (.builtin "BaseException.__getattribute__"))
  gt : findIn K (.ref C) "__getattr__" = some none
  cl : findIn K (.ref C) "__class__" = some (some (.builtin "object.__class__"))
  sb : subIn K (.ref C) (.type "BaseException") = some true
  so : subIn K (.ref C) (.type "object") = some true
  ci : (clsIn K C).isSome = true
/-- an object of the class at C stands at a -/
structure ExAt (h : Heap) (a : Addr) (o : Obj) (C : Addr) : Prop where
  at_ : h.get? a = some o
  cls : o.cls = .ref C
section
variable {prog : Program} {w : World} {A : Around} {E : Value → Shared → Prop} {h : Heap} {g : Array GenState} {d : Drawn} {t : Nat} {os : OsState} {a C : Addr} {o : Obj} {K : Frag}
end
/-- an object of an own class of errors stands at a: what is tracked of it -/
def excO (a C : Addr) : HO := .ext fun h => ∃ o, ExAt h a o C
section
variable {X : Cx}
end
end L2

namespace L2
open PySem PySem.Spec PyProof.Rows PySem.W
/-! ### an error on its way, with its own dict -/
/-- an error at e with a traceback, its class, its dict -/
def TrD (h base : Heap) (e : Addr) (cls : Value) (dd : Option Addr) (fl : Value) : Prop :=
  ∃ (ob tb : Obj) (us ts : Array Value) (T : Addr), (h.get? e = some ob ∧ ob.data = .fields us ∧ ob.cls = cls ∧ ob.dict = dd) ∧ us[1]? = some (.ref T) ∧ (base.get? T = none ∧ T ≠ e) ∧ h.get? T = some tb ∧ tb.data = .fields ts ∧ ts[3]? = some fl
structure FlyD (base : Heap) (l : List Env) (e : Addr) (cls : Value) (dd : Option Addr) (fl : Value) (h : Heap) : Prop where
  st : base.StaysIn h
  no : base.get? e = none
  fr : h.FunFrames base l
  tr : TrD h base e cls dd fl
section
variable {M : Model} {A : Around} {E : Value → Shared → Prop} {s : Shared} {base : Heap} {env : Env} {outer : List Env} {L e : Addr} {Q : Unit → Shared → Prop} {cls : Value} {dd : Option Addr}
end
end L2

namespace L2
open PySem PySem.Spec PyProof.Rows PySem.W
/-- an error is under way, with its own dict: what is known behind a call that ended so (s, H: ahead of the call) -/
structure Flx (P : Program) (w : World) (outer : List Env) (H : Hp) (s : Shared) (H' : Hp) (ea : Addr) (cls : Value) (dd : Option Addr) (s' : Shared) : Prop where
  os : s'.os = s.os
  bare : AllBare s'.gens
  un : Un (frs outer) [] H H' s.heap s'.heap
  fl : ∃ B : Heap, HOk P w H' B ∧ FlyD B outer ea cls dd .none s'.heap ∧ (∀ b o, s.heap.get? b = some o → H b = none → b ∉ frs outer → B.get? b = some o) ∧ (∀ b o, s.heap.get? b = some o → b ∉ frs outer → ∃ o', B.get? b = some o')
def CXg (P : Program) (w : World) : CXT := fun outer H s E e s' => ∃ (ea C : Addr) (dd : Option Addr) (H' : Hp), e = .ref ea ∧ Flx P w outer H s H' ea (.ref C) dd s' ∧ E (.ref C) dd H'
/-- a def's body running: it has a frame of its own and nothing that was made ahead of it turns -/
structure OwnF (X : Cx) : Prop where
  stk : X.stack = X.env :: X.outer
  fr : X.env.frame = some X.env.locals
  ex : X.ex = []
section
variable {X : Cx} {pins : List (Addr × Obj)} {σ : St} {H H' : Hp} {s s' : Shared}
end
/-- the body of a def that may raise -/
abbrev cxF (P : Program) (w : World) (K : Frag) (mg : Str → Option Value) (base : Heap) (N : List Str) (qual : Str) (scope : Scope) (f : Addr) (cd : Value) (A : Around) (outer : List Env) (s : Shared) (H : Hp) (E : XK) : Cx := cxOf (CXg P w) P w K mg base N qual scope f cd A outer s H E
section
variable {P : Program} {w : World} {K : Frag} {mg : Str → Option Value} {base : Heap} {N : List Str} {qual : Str} {scope : Scope} {f : Addr} {cd : Value} {A : Around} {outer : List Env} {s : Shared} {H : Hp} {E : XK}
/-- an error that stands there, untracked, leaves -/
def XeOk (X : Cx) (E : XK) : Prop := ∀ (pins : List (Addr × Obj)) (σ : St) (H : Hp) (s : Shared) (ea C : Addr) (ob : Obj) (us : Array Value), Inv X pins σ H s → H ea = none → X.s₀.heap.get? ea = none → s.heap.get? ea = some ob → ob.cls = .ref C → ob.data = .fields us → us[1]? = some .none → E (.ref C) ob.dict H → X.xe (.ref ea) s
end
end L2

namespace L2
open PySem PySem.Spec PyProof.Rows PySem.W
/-- the class that an except names -/
structure CtK (K : Frag) (D : Addr) : Prop where
  ty : typeIn K (.ref D) = some (.type "type")
  ci : (clsIn K D).isSome = true
  sb : subIn K (.ref D) (.type "BaseException") = some true
/-! ### raise -/
abbrev bmV : List Value := [.type "ValueError", .type "Exception", .type "BaseException", .type "object"]
structure ClsObj (h : Heap) (C : Addr) (bmB : List Value) (newId : String) : Prop where
  ex : ∃ (nm q : Str) (N : Addr) (bs bm : List Value) (hdct : Bool) (sn : List Str) (sub : List Value) (ab : Bool) (col : Option Bool) (dd : Option Addr) (k0 k1 k2 k3 k5 : Option Value) (mN : Str → Option Value),
    h.get? C = some (excClassObj nm q C N bs bm hdct sn sub ab col dd k0 k1 k2 k3 k5 newId) ∧ h.Ns N mN ∧ mN "__init__" = none ∧ OwnTail h bmB bm
/-- an error of the class at C that was caught, its dict -/
def excD (a C : Addr) (dd : Option Addr) : HO := .ext fun h => ∃ o, ExAt h a o C ∧ o.dict = dd ∧ ∃ us, o.data = .fields us
def tRaise (C : Addr) (E : XK) (t : TA) : TS := fun _ σ H => t σ H fun vs H1 => vs.length ≤ sizeLine ∧ E (.ref C) none H1
section
variable {X : Cx}
end
/-- within an except suite, from which nothing is raised -/
abbrev Cx.within (X : Cx) (v : Value) : Cx := { X with A := X.A.mark (some v), calm := false, xe := fun _ _ => False }
/-- within a try: what is wanted of an error, and pins that every state bears -/
abbrev Cx.trying (X : Cx) (pins : List (Addr × Obj)) (E : Value → Shared → Prop) : Cx := { X with pn := X.pn ++ pins, xe := E }
section
variable {X : Cx} {pins : List (Addr × Obj)} {σ : St} {H H' : Hp} {s s' : Shared}
/-- an error of the body is caught under the name n and kept under the name y (slot j) -/
def tTry (K : Frag) (N j : Nat) (Dc : Addr) (tb : XK → TS) : TS := fun D σ H => tb (fun cls dd H' => ∃ C, cls = .ref C ∧ ExK K C ∧ subIn K (.ref C) (.ref Dc) = some true ∧ ∀ a, H' a = none → D.nx ((List.replicate N none).set j (some (.ref a))) (upd H' a (excD a C dd))) D σ H
end
end L2

namespace L2
open PySem PySem.Spec PyProof.Rows PySem.W
/-! ### an own class of errors with an __init__ of its own -/
/-- the class at C stands under the one at P, which stands under ValueError; its __init__ is the def at f -/
def xiIn (K : Frag) (C P f : Addr) : Bool := match K.lookup C with
  | some ⟨.type "type", _, .cls cd, sl⟩ => (match cd.mro, sl.toList with
    | .ref C' :: .ref P' :: bm, [_, _, _, _, some (.builtin n), _] => C' == C && P' == P && n == "ValueError.__new__" && !cd.hasDel && cd.hasDict && tailIn K bmV (.ref P' :: bm) && nsOkIn K cd.ns && nsIn K cd.ns "__init__" == some (some (.ref f)) && bm == bmV
    | _, _ => false)
  | _ => false
structure ClsI (h : Heap) (C P f : Addr) : Prop where
  ex : ∃ (nm q : Str) (N : Addr) (bs : List Value) (sn : List Str) (sub : List Value) (ab : Bool) (col : Option Bool) (dd : Option Addr) (k0 k1 k2 k3 k5 : Option Value) (mN : Str → Option Value),
    h.get? C = some (excClassObj nm q C N bs (.ref P :: bmV) true sn sub ab col dd k0 k1 k2 k3 k5 "ValueError.__new__") ∧ h.Ns N mN ∧ mN "__init__" = some (.ref f) ∧ OwnTail h bmV (.ref P :: bmV)
section
variable {prog : Program} {w : World} {A : Around} {E : Value → Shared → Prop} {h : Heap} {g : Array GenState} {d : Drawn} {t : Nat} {os : OsState} {K : Frag} {C P f : Addr}
/-- what stands there when __init__ is called -/
abbrev excNew (h : Heap) (C : Addr) (rest : List Value) : Heap := (h.push { cls := .type "tuple", data := .seq rest.toArray }).push { cls := .ref C, data := .fields #[.ref h.objs.size, .none, .none, .none, .bool false, .none] }
end
end L2

namespace L2
open PySem PySem.Spec PyProof.Rows PySem.W
/-- an error that is being made, or was made and is not raised yet: its class, its dict -/
def exN (a C : Addr) (dd : Option Addr) : HO := .ext fun h => ∃ o t, (h.get? a = some o ∧ o.cls = .ref C ∧ o.dict = dd) ∧ o.data = .fields #[t, .none, .none, .none, .bool false, .none]
/-- what is no more tracked -/
def rem (H : Hp) (a : Addr) : Hp := fun b => if b = a then none else H b
section
variable {X : Cx} {pins : List (Addr × Obj)} {σ : St} {H : Hp} {s : Shared}
end
/-- an own class of errors with an __init__, as the top made it -/
structure ExI (K : Frag) (C P f : Addr) : Prop where
  xi : xiIn K C P f = true
  fn : typeIn K (.ref f) = some (.type "function")
  kp : keepIn K (.ref C) = true
  k : ExK K C
/-- raise C(..): the error is made, __init__ runs, it leaves -/
def tRaiseI (C : Addr) (sp : Sp) (E : XK) (t : TA) : TS := fun _ σ H => t σ H fun vs H1 => vs.length ≤ sizeLine ∧ ∀ e, H1 e = none →
  sp (.ref e :: vs) (upd H1 e (exN e C none)) (fun v H2 => v = .non ∧ ∃ dd, H2 e = some (exN e C dd) ∧ E (.ref C) dd (rem H2 e)) E0
section
variable {X : Cx}
end
end L2

namespace L2
open PySem PySem.Spec PyProof.Rows PySem.W PySem.Builtin PySem.Builtin.ObjectAttr
section
variable {prog : Program} {w : World} {A : Around} {E : Value → Shared → Prop} {h : Heap} {g : Array GenState} {d : Drawn} {t : Nat} {os : OsState} {K : Frag} {C P f a : Addr} {o : Obj} {name : Str} {v : Value}
/-! ### e.name -/
end
/-! ### in the layer -/
/-- what the top made of a class of errors with fields: no attribute of the class has a field's name -/
structure ExF (K : Frag) (C P f : Addr) (x : Str) : Prop where
  i : ExI K C P f
  sa : findIn K (.ref C) "__setattr__" = some (some (.builtin "object.__setattr__"))
  nn : findIn K (.ref C) x = some none
/-- the dict of an error -/
def xdE (a : Addr) (fs : List (Str × V)) : HO := .ext fun h => ∃ mA, h.Ns1 a mA ∧ (∀ g, RelO (fs.lookup g) (mA g)) ∧ Within mA (fs.map (·.1))
section
variable {X : Cx} {pins : List (Addr × Obj)} {σ : St} {H : Hp} {s : Shared} {o e value : Expr} {x : Str} {pos pos' : Pos} {ta tv : TE} {C P f : Addr}
/-- e.x = value, the first one -/
def sExN (K : Frag) (C P f : Addr) (ta tv : TE) (x : Str) : TS := fun D σ H => tv σ H fun y H1 => ta σ H1 fun z H2 => ∃ a, z = .ref a ∧ H2 a = some (exN a C none) ∧ ExF K C P f x ∧
  ∀ dx, H2 dx = none → dx ≠ a → D.nx σ (upd (upd H2 a (exN a C (some dx))) dx (xdE dx [(x, y)]))
end
end L2

namespace L2
open PySem PySem.Spec PyProof.Rows PySem.W PySem.Builtin PySem.Builtin.ObjectAttr
section
variable {prog : Program} {w : World} {A : Around} {E : Value → Shared → Prop} {h : Heap} {g : Array GenState} {d : Drawn} {t : Nat} {os : OsState} {K : Frag} {C P f a : Addr} {o : Obj} {v : Value}
end
/-- the class whose __init__ is called by its name -/
structure BaseI (K : Frag) (P : Addr) : Prop where
  rd : readsIn K P (.type "type") = true
  fc : findCls K (.ref P) (.type "type") "__init__" = some (.val (.builtin "ValueError.__init__"))
  ga : specialIn K (.ref P) "__getattribute__" = some (some (.builtin "type.__getattribute__"))
section
variable {X : Cx} {C P f : Addr} {x : Str} {p apos pos : Pos} {e₁ e₂ : Expr} {t : TA}
/-- Base.__init__(self, text) -/
def tBInit (K : Frag) (P : Addr) (t : TA) : TE := fun σ H Q => t σ H fun vs H1 => ∃ a C dd f txt, vs = [.ref a, .str txt] ∧ H1 a = some (exN a C dd) ∧ ExI K C P f ∧ Q .non H1
/-! ### e.x of an error that was caught -/
def tExF (K : Frag) (ta : TE) (x : Str) : TE := fun σ H Q => ta σ H fun z H1 => ∃ a C P f dx fs v, z = .ref a ∧ H1 a = some (excD a C (some dx)) ∧ H1 dx = some (xdE dx fs) ∧ ExF K C P f x ∧ fs.lookup x = some v ∧ Q v H1
end
end L2

namespace L2
open PySem PySem.Spec PyProof.Rows PySem.W
/-! ### f-strings -/
/-- what stands in an f-string for a value -/
def FmtV : V → Str → Prop
  | .int i, x => i.natAbs.log2 < 1920 ∧ x = (toString i : String)
  | .str y, x => y.length ≤ sizeLine ∧ x = y
  | .non, x => x = "None"
  | _, _ => False
def tFmt (ta : TE) : TE := fun σ H Q => ta σ H fun v H1 => ∃ x, FmtV v x ∧ Q (.str x) H1
abbrev TJ := Str → St → Hp → (Str → Hp → Prop) → Prop
/-- the parts of an f-string, behind what was joined so far -/
def PJ (X : Cx) (es : List Expr) (t : TJ) : Prop :=
  ∀ (acc : Str) (pins : List (Addr × Obj)) (s : Shared) (σ : St) (H : Hp) (Q : Str → Hp → Prop), Inv X pins σ H s → t acc σ H Q → wpAny (model X.prog X.w) X.A (joinParts acc (evalEach es X.env)) (EP X pins σ fun v H' => ∃ x, v = .str x ∧ Q x H') X.xe s
def jNil : TJ := fun acc _ H Q => acc.length ≤ sizeLine ∧ Q acc H
def jCons (te : TE) (tr : TJ) : TJ := fun acc σ H Q => te σ H fun v H1 => ∃ x, v = .str x ∧ (acc ++ x).length ≤ sizeLine ∧ tr (acc ++ x) σ H1 Q
def tJoin (t : TJ) : TE := fun σ H Q => t Str.empty σ H fun x H' => Q (.str x) H'
section
variable {X : Cx} {value e e' : Expr} {es : List Expr} {ta te : TE} {tr t : TJ} {pos : Pos}
end
end L2

namespace L2
open PySem PySem.Spec PyProof.Rows PySem.W
/-! ### over a text, sign by sign -/
def Its (x : Str) : It := ⟨fun i _ => ∃ c, x.cps[i]? = some c, fun i H v H' => H' = H ∧ ∃ c, x.cps[i]? = some c ∧ v = .str ⟨#[c]⟩, fun i _ => x.cps[i]? = none⟩
theorem turn_str {P : Program} {w : World} {K : Frag} {tg : Expr} (x : Str) (t : Tok) (it : Addr) (b : Bool) :
    Turn P w K tg (Its x) [it] it (fun i h => h.IsStrIter it (if b then "str_ascii_iterator" else "str_iterator") x t i) where
  mem := by simp
  obj := fun i h st a ha => by
    have e : a = it := by simpa using ha
    subst e
    obtain ⟨o, e, c, d⟩ := st
    exact ⟨o, e, fun v z => by rw [d] at z; cases z⟩
  keep := fun i h h' ⟨o, e, r⟩ k => ⟨o, k it (by simp) o e, r⟩
  item := by
    intro X hP hw hK hc i pins s σ H E I hf st hg
    subst hP hw hK
    obtain ⟨c, hx⟩ := hg
    obtain ⟨f0, f1, f2, f3, f4, f5⟩ := hf it (by simp)
    have go : ∀ h', h'.IsStrIter it (if b then "str_ascii_iterator" else "str_iterator") x t (i + 1) → Heap.SameBut it s.heap h' →
        ∃ u, (some (Value.str ⟨#[c]⟩ s.toks)) = some u ∧ wpAny (model X.prog X.w) X.A (letOwnedTupleGo tg (.ref it) u) (fun _ s2 => ∃ v H', Inv X pins σ H' s2 ∧ RelV v u ∧ (Its x).yld i H v H' ∧ s2.heap.IsStrIter it (if b then "str_ascii_iterator" else "str_iterator") x t (i + 1) ∧ ∀ b ∈ [it], H' b = none) E { s with heap := h', toks := s.toks + 1 } := by
      intro h' st' sb
      have I1 : Inv X pins σ H { s with heap := h', toks := s.toks + 1 } := I.turned (t' := s.toks + 1) (fun b o hb e => (sb.2 b hb).trans e) f0 f1 f3 f4 f5
      obtain ⟨o, e, cc, d⟩ := id st'
      exact ⟨_, rfl, go_of (s := { s with heap := h', toks := s.toks + 1 }) e cc d (by cases b <;> decide) ⟨.str ⟨#[c]⟩, H, I1, ⟨_, rfl⟩, ⟨rfl, c, hx, rfl⟩, st', fun b hb => (hf b hb).1⟩⟩
    cases b with
    | true => exact wpAny_pyNext_ascii_item st hx go
    | false => exact wpAny_pyNext_wide_item st hx go
  done := by
    intro X hP hw hK hc i pins s σ H E I hf st hg
    subst hP hw hK
    obtain ⟨f0, f1, f2, f3, f4, f5⟩ := hf it (by simp)
    cases b with
    | true => exact wpAny_pyNext_ascii_end (I.ok.hd hc) st hg fun h' eb => ⟨rfl, I.turned (t' := s.toks) (fun b o hb e => eb b o hb e) f0 f1 f3 f4 f5⟩
    | false => exact wpAny_pyNext_wide_end (I.ok.hd hc) st hg fun h' eb => ⟨rfl, I.turned (t' := s.toks) (fun b o hb e => eb b o hb e) f0 f1 f3 f4 f5⟩
  self := fun _ _ _ _ _ st h => by
    cases b with
    | true => exact wpAny_pyIter_striter_ascii st h
    | false => exact wpAny_pyIter_striter_wide st h
def iStr (tl : TE) : TI := fun σ H R => tl σ H fun v H1 => ∃ x, v = .str x ∧ R (Its x) H1
section
variable {X : Cx}
theorem pi_str {tg l : Expr} {tl : TE} (hl : PE X l tl) : PI X tg l (iStr tl) := by
  intro pins s σ H R I h
  refine thn (hl pins s σ H _ I h) fun v s1 ⟨y, H1, I1, r1, x, ey, q⟩ => ?_
  subst ey
  obtain ⟨t, rfl⟩ := r1
  have fin : ∀ b : Bool, PIE X pins σ tg R (.ref s1.heap.objs.size) { s1 with heap := s1.heap.push { cls := .type (if b then "str_ascii_iterator" else "str_iterator"), data := .fields #[.str x t, .int 0 0] } } := by
    intro b
    refine ⟨s1.heap.objs.size, [s1.heap.objs.size], _, _, H1, rfl, I1.kept (t' := s1.toks) fun b o e => Heap.get?_push_of_some _ e, turn_str x t _ b, ⟨_, Heap.get?_push_size _ rfl, rfl, rfl⟩, fun b hb => ?_, q⟩
    have e : b = s1.heap.objs.size := by simpa using hb
    subst e
    exact I1.fpOk (Nat.le_refl _) (I1.hok.fresh (Nat.le_refl _))
  cases ha : x.cps.all (· < 128) with
  | true => exact wpAny_pyIter_ascii ha (fin true)
  | false => exact wpAny_pyIter_wide ha (fin false)
end
/-! ### methods of texts -/
def rPart : V → List V → Hp → VK → Prop := fun z vs H Q => ∃ x y, z = .str x ∧ vs = [.str y] ∧ (y.length == 0) = false ∧ x.length ≤ sizeLine ∧ ∀ p, H p = none → Q (.ref p) (upd H p (.tup [.str (Txt.partition x y).1, .str (Txt.partition x y).2.1, .str (Txt.partition x y).2.2]))
def rSplit : V → List V → Hp → VK → Prop := fun z vs H Q => ∃ x y, z = .str x ∧ vs = [.str y] ∧ (y.length == 0) = false ∧ x.length + 2 ≤ sizeLine ∧ ∀ p, H p = none → Q (.ref p) (upd H p (.lst ((Txt.split x y).map V.str)))
section
variable {X : Cx}
end
end L2
namespace L2
open PySem PySem.Spec PyProof.Rows PySem.W
section
variable {X : Cx}
/-! ### int(text), any and all of bools, text * number -/
/-! ### text * number, text[a:b] -/
/-! ### a list against the empty one -/
theorem op_eqE (hu : X.A.units + 64 < cLine) : OpR X (compareOp .Eq) (fun x y H Q => ∃ a b xs, x = .ref a ∧ y = .ref b ∧ SqL X.K H a xs ∧ SqL X.K H b [] ∧ Q (.bl xs.isEmpty) H) := by
  intro pins s σ H x y v u Q I rx ry h
  obtain ⟨a, b, xs, rfl, rfl, ha, hb, q⟩ := h
  cases rx
  cases ry
  obtain ⟨its, r, p, _⟩ := I.list ha
  obtain ⟨its', r', p', _⟩ := I.list hb
  cases r'
  cases r with
  | nil => exact SeqAt.RcAt.lists (A := X.A) (e := fun _ => true) p.isList p'.isList rfl (by omega) (fun j h1 => absurd h1 (by simp)) X.prog X.w X.xe _ ⟨.bl _, H, I, rfl, q⟩
  | cons r t => exact SeqAt.RcAt.lists_lengths (A := X.A) p.isList p'.isList rfl (by omega) X.prog X.w X.xe _ ⟨.bl _, H, I, rfl, q⟩
theorem op_neE (hu : X.A.units + 64 < cLine) : OpR X (compareOp .NotEq) (fun x y H Q => ∃ a b xs, x = .ref a ∧ y = .ref b ∧ SqL X.K H a xs ∧ SqL X.K H b [] ∧ Q (.bl (!xs.isEmpty)) H) := by
  intro pins s σ H x y v u Q I rx ry h
  obtain ⟨a, b, xs, rfl, rfl, ha, hb, q⟩ := h
  cases rx
  cases ry
  obtain ⟨its, r, p, _⟩ := I.list ha
  obtain ⟨its', r', p', _⟩ := I.list hb
  cases r'
  cases r with
  | nil => exact SeqAt.RcNeAt.lists (A := X.A) (e := fun _ => true) p.isList p'.isList rfl (by omega) (fun j h1 => absurd h1 (by simp)) X.prog X.w X.xe _ ⟨.bl _, H, I, rfl, q⟩
  | cons r t => exact SeqAt.RcNeAt.lists_lengths (A := X.A) p.isList p'.isList rfl (by omega) X.prog X.w X.xe _ ⟨.bl _, H, I, rfl, q⟩
end
end L2

/-! texts of figures, and of amounts, as lists of codes -/
namespace TM
open PySem PySem.NumText
/-- the figures of a number -/
def dg (n : Nat) : List Nat := (Nat.toDigits 10 n).map Char.toNat
/-- figures without a nought ahead of others -/
structure Fig (cs : List Nat) : Prop where
  ne : cs ≠ []
  len : cs.length ≤ 60
  all : AllDigits cs
  no : cs.head? = some 48 → cs.length = 1
/-- the text L writes the amount t / b -/
def Reads (L : List Nat) (t b : Nat) : Prop :=
  (Fig L ∧ t = digitsVal L ∧ b = 1) ∨ ∃ p q, L = p ++ 47 :: q ∧ Fig p ∧ Fig q ∧ t = digitsVal p ∧ b = digitsVal q ∧ 2 ≤ b ∧ Nat.gcd t b = 1
def showL (t b : Nat) : List Nat := if b = 1 then dg t else dg t ++ 47 :: dg b
end TM
namespace TM
open PySem PySem.StrLaws PySem.Builtin PySem.Builtin.Str
abbrev cps (x : Str) : List Nat := x.cps.toList
abbrev sl : Str := ⟨#[47]⟩
theorem cps_append' (x y : Str) : cps (x ++ y) = cps x ++ cps y := by
  show (x.cps ++ y.cps).toList = _
  rw [Array.toList_append]
end TM

namespace L2
open PySem PySem.Spec PyProof.Rows PySem.W
def rCount : V → List V → Hp → VK → Prop := fun x vs H Q => ∃ l xs y, x = .ref l ∧ vs = [y] ∧ H l = some (.lst xs) ∧ flatV y = true ∧ xs.all flatV = true ∧ Q (.int ((xs.countP fun z => eqV z y : Nat) : Int)) H
def rIndex : V → List V → Hp → VK → Prop := fun x vs H Q => ∃ l xs y, ∃ j : Nat, ∃ z, x = .ref l ∧ vs = [y] ∧ H l = some (.lst xs) ∧ flatV y = true ∧ xs.all flatV = true ∧ xs[j]? = some z ∧ eqV z y = true ∧
  (∀ m z, m < j → xs[m]? = some z → eqV z y = false) ∧ Q (.int (j : Int)) H
section
variable {X : Cx}
theorem mt_index : MtR X "list.index" rIndex := by
  intro pins s σ H x vs v us Q I rx rv h
  obtain ⟨l, xs, y, j, z, rfl, rfl, hH, fy, fx, hz, hit, hno, q⟩ := h
  cases rx
  obtain ⟨u, rfl, ru⟩ := rv.one
  obtain ⟨hs, its, n, r, hl, e⟩ := I.lstM hH
  have hj : j < xs.length := (List.getElem?_eq_some_iff.mp hz).1
  have fl : ∀ (m : Nat) z, xs[m]? = some z → flatV z = true := fun m z hm => List.all_eq_true.mp fx z (List.mem_of_getElem? hm)
  have at' : ∀ (m : Nat) z, xs[m]? = some z → ∀ hm : m < its.toArray.size, eqU y its.toArray[m] = eqV z y := fun m z hm hm' => by
    obtain ⟨u1, hu1, ru1⟩ := r.get hm
    have e1 : its.toArray[m] = u1 := by
      have := (List.getElem?_eq_some_iff.mp hu1).2
      simpa using this
    rw [e1, eqU_of ru1 (fl m z hm)]
  have hj' : j < its.toArray.size := by rw [List.size_toArray, ← hl]; exact hj
  have hsl : sizeLine < 2 ^ 62 := by decide +kernel
  refine call_meets PySem.F.slot_list_index ⟨_, e, rfl⟩ PySem.F.entry_list_index (PySem.F.args_list_index_2 _ _) (SeqAt.list_indexAt l its.toArray n none #[] u (eqU y) j hj' (by omega) ((at' j z hz hj').trans hit) (fun m hm hlt => ?_)) ⟨e, fun u' hu' => mem_eqAt ru fy r fx u' (by simpa using hu'), ?_⟩
  · obtain ⟨z', hz'⟩ : ∃ z', xs[m]? = some z' := ⟨_, List.getElem?_eq_getElem (by omega)⟩
    rw [at' m z' hz' hm]
    exact hno m z' hlt hz'
  · exact ⟨.int _, H, I.tok _, ⟨_, rfl⟩, q⟩
end
def Nx (n i : Nat) (P : Prop) : Prop := ∃ m', m' < n - i ∧ m' = n - (i + 1) ∧ i + 1 ≤ n ∧ P
theorem blkN_none {X : Cx} {scope : Scope} {N' : List Str} {cl : List (Str × Addr)} {σ : St} : BlkN X N' scope cl σ (List.replicate N'.length none) := by
  refine ⟨by simp, fun i x v h1 h2 => ?_⟩
  rw [List.getElem?_replicate] at h2
  split at h2 <;> cases h2
end L2

namespace L2
open PySem PySem.Spec PyProof.Rows
/-! ### an empty dict, of which it is only known that it is one -/
def dcE (a : Addr) : HO := .ext fun h => ∃ o, h.get? a = some o ∧ o.cls = .type "dict"
def tDict0 : TE := fun _ H Q => ∀ p, H p = none → Q (.ref p) (upd H p (dcE p))
section
variable {X : Cx} {pos : Pos}
/-- isinstance against a built-in type, a dict among the things that are asked -/
def IsiD (K : PySem.W.Frag) (H : Hp) (v : V) (T : String) (b : Bool) : Prop := Isi K H v T b ∨ ∃ a, v = .ref a ∧ H a = some (dcE a) ∧ T = "str" ∧ b = false
end
end L2

namespace L2
open PySem PySem.Spec PyProof.Rows
/-! ### == and != of lists -/
def rEqL (K : PySem.W.Frag) : R2 := fun x y H Q => ∃ a b xs ys, ∃ e : Nat → Bool, x = .ref a ∧ y = .ref b ∧ SqL K H a xs ∧ SqL K H b ys ∧ (∀ (j : Nat) x y, xs[j]? = some x → ys[j]? = some y → DEq K H 40 x y (e j)) ∧
  Q (.bl ((List.range (min xs.length ys.length)).all e && xs.length == ys.length)) H
def rNeL (K : PySem.W.Frag) : R2 := fun x y H Q => ∃ a b xs ys, ∃ e : Nat → Bool, x = .ref a ∧ y = .ref b ∧ SqL K H a xs ∧ SqL K H b ys ∧ (∀ (j : Nat) x y, xs[j]? = some x → ys[j]? = some y → DEq K H 40 x y (e j)) ∧
  Q (.bl (!((List.range (min xs.length ys.length)).all e && xs.length == ys.length))) H
section
variable {X : Cx}
theorem nels_at {pins : List (Addr × Obj)} {σ : St} {H : Hp} {s : Shared} (I : Inv X pins σ H s) {A : Around} {a b : Addr} {xs ys : List V} {e : Nat → Bool} (hx : SqL X.K H a xs) (hy : SqL X.K H b ys) (hu : A.units < cLine)
    (hd : ∀ (j : Nat) x y u v, xs[j]? = some x → ys[j]? = some y → RelV x u → RelV y v → SeqAt.EqAt A.in1 s u v (e j)) :
    SeqAt.RcNeAt A s (.ref a) (.ref b) (!((List.range (min xs.length ys.length)).all e && xs.length == ys.length)) := by
  obtain ⟨its, r, tx, _⟩ := I.list hx
  obtain ⟨its', r', ty, _⟩ := I.list hy
  have l1 := r.length
  have l2 := r'.length
  by_cases hl : xs.length = ys.length
  · have q := SeqAt.RcNeAt.lists (A := A) (e := e) (isList_of tx) (isList_of ty) (by rw [List.size_toArray, List.size_toArray]; omega) hu (fun j h1 h2 => ?_)
    · rw [List.size_toArray, ← l1] at q
      have e1 : ((List.range (min xs.length ys.length)).all e && xs.length == ys.length) = (List.range xs.length).all e := by
        rw [← hl, Nat.min_self, beq_self_eq_true, Bool.and_true]
      rw [e1]
      exact q
    · rw [List.size_toArray] at h1 h2
      obtain ⟨x, hxj⟩ : ∃ x, xs[j]? = some x := ⟨_, List.getElem?_eq_getElem (by omega)⟩
      obtain ⟨y, hyj⟩ : ∃ y, ys[j]? = some y := ⟨_, List.getElem?_eq_getElem (by omega)⟩
      obtain ⟨u1, hu1, ru1⟩ := r.get hxj
      obtain ⟨u2, hu2, ru2⟩ := r'.get hyj
      have e1 : its.toArray[j] = u1 := by
        have := (List.getElem?_eq_some_iff.mp hu1).2
        simpa using this
      have e2 : its'.toArray[j] = u2 := by
        have := (List.getElem?_eq_some_iff.mp hu2).2
        simpa using this
      rw [e1, e2]
      exact hd j x y u1 u2 hxj hyj ru1 ru2
  · have q := SeqAt.RcNeAt.lists_lengths (A := A) (isList_of tx) (isList_of ty) (by rw [List.size_toArray, List.size_toArray, ← l1, ← l2, bne_iff_ne]; exact hl) hu
    have e1 : ((List.range (min xs.length ys.length)).all e && xs.length == ys.length) = false := by
      rw [beq_eq_false_iff_ne.mpr hl, Bool.and_false]
    rw [e1]
    exact q
theorem op_neL (hu : X.A.units + 64 < cLine) : OpR X (compareOp .NotEq) (rNeL X.K) := by
  intro pins s σ H x y v u Q I rx ry h
  obtain ⟨a, b, xs, ys, e, rfl, rfl, hx, hy, hd, q⟩ := h
  cases rx; cases ry
  exact nels_at I hx hy (by omega) (fun j x y u v h1 h2 r1 r2 => (hd j x y h1 h2).at I (by show X.A.units + 1 + 40 < cLine; omega) r1 r2) X.prog X.w X.xe _ ⟨.bl _, H, I, rfl, q⟩
end
/-- a value that equals itself at sight -/
def Sf (v : V) : Prop := flatV v = true ∨ ∃ a, v = .ref a
/-- two lists of the same things -/
def rNeLs (K : PySem.W.Frag) : R2 := fun x y H Q => ∃ a b xs, x = .ref a ∧ y = .ref b ∧ SqL K H a xs ∧ SqL K H b xs ∧ (∀ v ∈ xs, Sf v) ∧ Q (.bl false) H
end L2

namespace L2
open PySem PySem.Spec PyProof.Rows
theorem bt_list : bootBuiltins "list" = some (.type "list") := by decide +kernel
/-! ### the tuples stay -/
def Tk (H H' : Hp) : Prop := ∀ b ys, H b = some (.tup ys) → H' b = some (.tup ys)
theorem Same.tk {H H' : Hp} (s : Same H H') : Tk H H' := fun b ys e => s b _ e
theorem Tk.refl {H : Hp} : Tk H H := fun _ _ e => e
theorem Tk.trans {H H1 H2 : Hp} (h : Tk H H1) (k : Tk H1 H2) : Tk H H2 := fun b ys e => k b ys (h b ys e)
theorem Tk.lst {H : Hp} {l : Addr} {xs : List V} {o : HO} (h : H l = some (.lst xs)) : Tk H (upd H l o) := fun b ys e => by
  have ne : b ≠ l := fun z => by rw [z, h] at e; cases e
  rw [upd_ne ne]
  exact e
theorem sz1000 {n : Nat} (h : n ≤ 1000) : n ≤ sizeLine := Nat.le_trans h (by decide)
/-! ### displays of many elements -/
def starFree : Expr → Bool
  | .Starred .. => false
  | _ => true
end L2

namespace L2
open PySem PySem.Spec PyProof.Rows
/-! ### what a value tells: flat things, and tuples of such, at any depth -/
inductive Dt where
  | i (n : Int)
  | s (x : Str)
  | b (k : Bool)
  | n
  | t (l : List Dt)
/-- a tuple that nothing changes: one of the heap, or of the module -/
def SqZ (K : PySem.W.Frag) (H : Hp) (a : Addr) (xs : List V) : Prop := H a = some (.tup xs) ∨ ∃ (o : Obj) (its : Array Value) (n : Nat), K.lookup a = some o ∧ o.cls = .type "tuple" ∧ o.data = .seq its n ∧ its.size ≤ sizeLine ∧ Vals xs its.toList
inductive Dv (K : PySem.W.Frag) (H : Hp) : Nat → V → Dt → Prop where
  | i {n m} : Dv K H n (.int m) (.i m)
  | s {n x} : Dv K H n (.str x) (.s x)
  | b {n k} : Dv K H n (.bl k) (.b k)
  | n {n} : Dv K H n .non .n
  | t {n a xs ds} : SqZ K H a xs → xs.length = ds.length → (∀ (j : Nat) x d, xs[j]? = some x → ds[j]? = some d → Dv K H n x d) → Dv K H (n + 1) (.ref a) (.t ds)
/-- lists of such things -/
def DL (K : PySem.W.Frag) (H : Hp) (n : Nat) (xs : List V) (ds : List Dt) : Prop := xs.length = ds.length ∧ ∀ (j : Nat) x d, xs[j]? = some x → ds[j]? = some d → Dv K H n x d
/-- the same list of things, told twice -/
def rEqDL (K : PySem.W.Frag) : R2 := fun x y H Q => ∃ a b xs ys ds, x = .ref a ∧ y = .ref b ∧ SqL K H a xs ∧ SqL K H b ys ∧ DL K H 40 xs ds ∧ DL K H 40 ys ds ∧ Q (.bl true) H
def rNeDL (K : PySem.W.Frag) : R2 := fun x y H Q => ∃ a b xs ys ds, x = .ref a ∧ y = .ref b ∧ SqL K H a xs ∧ SqL K H b ys ∧ DL K H 40 xs ds ∧ DL K H 40 ys ds ∧ Q (.bl false) H
def rEqDT (K : PySem.W.Frag) : R2 := fun x y H Q => ∃ a b xs ys ds, x = .ref a ∧ y = .ref b ∧ SqT K H a xs ∧ SqT K H b ys ∧ DL K H 40 xs ds ∧ DL K H 40 ys ds ∧ Q (.bl true) H
def rNeDT (K : PySem.W.Frag) : R2 := fun x y H Q => ∃ a b xs ys ds, x = .ref a ∧ y = .ref b ∧ SqT K H a xs ∧ SqT K H b ys ∧ DL K H 40 xs ds ∧ DL K H 40 ys ds ∧ Q (.bl false) H
section
variable {X : Cx}
end
end L2

namespace L2
open PySem PySem.Spec PyProof.Rows
/-! ### a comprehension that takes names over -/
theorem closure_go {env : Env} : ∀ (names : List (Str × NameKind)) (acc : List (Str × Addr)), (∀ y ∈ names, y.2 = NameKind.free → ∃ c, env.cells.lookup y.1 = some c) → (∀ x c, acc.lookup x = some c → env.cells.lookup x = some c) →
    ∃ cl, (forIn (m := Sem) names acc (fun x r => do if (x.2 == NameKind.free) = true then do let c ← cellOf env x.1; pure (ForInStep.yield ((x.1, c) :: r)) else pure (ForInStep.yield r))) = pure cl ∧
      (∀ x c, cl.lookup x = some c → env.cells.lookup x = some c) ∧ (∀ y ∈ names, y.2 = NameKind.free → ∃ c, cl.lookup y.1 = some c) ∧ ∀ x, (∃ c, acc.lookup x = some c) → ∃ c, cl.lookup x = some c
  | [], acc, _, h2 => ⟨acc, rfl, h2, (fun y hy => by simp at hy), fun _ h => h⟩
  | y :: r, acc, h1, h2 => by
    by_cases e : y.2 = NameKind.free
    · obtain ⟨c, hc⟩ := h1 y List.mem_cons_self e
      obtain ⟨cl, e1, e2, e3, e4⟩ := closure_go r ((y.1, c) :: acc) (fun z hz => h1 z (List.mem_cons_of_mem _ hz)) (fun x d hx => by
        rw [List.lookup_cons] at hx
        split at hx
        · rename_i hb
          have : x = y.1 := eq_of_beq hb
          rw [this, hc]
          exact hx
        · exact h2 x d hx)
      refine ⟨cl, ?_, e2, fun z hz ez => ?_, fun x hx => e4 x ?_⟩
      · rw [List.forIn_cons, if_pos (by rw [e]; rfl)]
        unfold cellOf
        rw [hc]
        simp only [pure_bind]
        exact e1
      · rcases List.mem_cons.mp hz with rfl | hz
        · exact e4 z.1 ⟨c, by rw [List.lookup_cons, beq_self_eq_true]⟩
        · exact e3 z hz ez
      · obtain ⟨d, hd⟩ := hx
        rw [List.lookup_cons]
        split
        · exact ⟨c, rfl⟩
        · exact ⟨d, hd⟩
    · obtain ⟨cl, e1, e2, e3, e4⟩ := closure_go r acc (fun z hz => h1 z (List.mem_cons_of_mem _ hz)) h2
      refine ⟨cl, ?_, e2, fun z hz ez => ?_, e4⟩
      · rw [List.forIn_cons, if_neg (by intro z; exact e (eq_of_beq z))]
        simp only [pure_bind]
        exact e1
      · rcases List.mem_cons.mp hz with rfl | hz
        · exact absurd ez e
        · exact e3 z hz ez
theorem closure_ok {scope : Scope} {env : Env} (h : ∀ y ∈ scope.names, y.2 = NameKind.free → ∃ c, env.cells.lookup y.1 = some c) :
    ∃ cl, closureFor scope env = pure cl ∧ (∀ x c, cl.lookup x = some c → env.cells.lookup x = some c) ∧ ∀ y ∈ scope.names, y.2 = NameKind.free → ∃ c, cl.lookup y.1 = some c := by
  obtain ⟨cl, e1, e2, e3, _⟩ := closure_go (env := env) scope.names [] h (fun x c e => by simp at e)
  refine ⟨cl, ?_, e2, e3⟩
  simp only [closureFor]
  rw [show (forIn (m := Sem) scope.names [] fun x r => if (x.2 == NameKind.free) = true then (do let c ← cellOf env x.1; pure (ForInStep.yield ((x.1, c) :: r))) else pure (ForInStep.yield r)) = pure cl from e1]
  rfl
theorem relabel_from {scope : Scope} {env : Env} {x : Str} (hc : ∀ y ∈ scope.names, y.2 ≠ NameKind.cell) (h : (relabel scope env).names.lookup x = some .cell ∨ (relabel scope env).names.lookup x = some .free) : ∃ y ∈ scope.names, y.1 = x ∧ y.2 = NameKind.free := by
  have e' : ∃ k, (k = NameKind.cell ∨ k = NameKind.free) ∧ (relabel scope env).names.lookup x = some k := by
    rcases h with e | e
    · exact ⟨_, .inl rfl, e⟩
    · exact ⟨_, .inr rfl, e⟩
  obtain ⟨k, hk, e⟩ := e'
  have hm := PySem.mem_of_lookup e
  obtain ⟨y, hy, hy2⟩ := List.mem_map.mp hm
  obtain ⟨n, kk⟩ := y
  have hn := hc _ hy
  simp only at hy2 hn
  split at hy2
  · rename_i hf
    injection hy2 with a1 a2
    subst a1
    simp only [Bool.and_eq_true] at hf
    exact ⟨(n, kk), hy, rfl, eq_of_beq hf.1.1⟩
  · injection hy2 with a1 a2
    subst a1 a2
    rcases hk with rfl | rfl
    · exact absurd rfl hn
    · exact ⟨_, hy, rfl, rfl⟩
theorem clOk_of {X : Cx} (ok : X.Ok) {scope : Scope} (hc : ∀ y ∈ scope.names, y.2 ≠ NameKind.cell) (h : ∀ y ∈ scope.names, y.2 = NameKind.free → X.env.kindOf y.1 = some .cell ∨ X.env.kindOf y.1 = some .free) : ∃ cl, ClOk X scope cl := by
  obtain ⟨cl, e1, e2, e3⟩ := closure_ok (scope := scope) (env := X.env) fun y hy ey => ok.has y.1 (h y hy ey)
  refine ⟨cl, e1, e2, fun x hx => ?_⟩
  obtain ⟨y, hy, rfl, ey⟩ := relabel_from hc hx
  exact e3 y hy ey
theorem pe_compC {X : Cx} {elt tg iter : Expr} {ifs : List Expr} {scope : Scope} {pos : Pos} {N' : List Str} {wi : TI} {g : TG} {tt : TT} {te : TE} (σf : St → St)
    (hc : X.calm = true) (hkind : scope.kind = .function) (hcell : ∀ y ∈ scope.names, y.2 ≠ .cell) (hnames : ∀ y ∈ scope.names, y.2 = .local → scope.names.lookup y.1 = some .local)
    (hk : ∀ y ∈ scope.names, y.2 = NameKind.free → X.env.kindOf y.1 = some .cell ∨ X.env.kindOf y.1 = some .free)
    (hN : ∀ cl (σ : St), σ.length = X.N.length → BlkN X N' scope cl σ (σf σ)) (hi : PI X tg iter wi)
    (hg : ∀ cl C s₀ H₀ ex pn, PG (blk X N' scope cl C s₀ H₀ ex pn) tg g) (ht : ∀ cl C s₀ H₀ ex pn, PIfs (blk X N' scope cl C s₀ H₀ ex pn) ifs tt) (he : ∀ cl C s₀ H₀ ex pn, PE (blk X N' scope cl C s₀ H₀ ex pn) elt te)
    (hs : ∀ x, foldedSetIterable iter X.env x = pure x := by intro _; rfl) : PE X (.ListComp elt [⟨tg, iter, ifs, 0⟩] scope pos) (tComp σf wi g tt te) := by
  intro pins s σ H Q I h
  obtain ⟨cl, hcl⟩ := clOk_of I.ok hcell hk
  exact pe_comp σf hc hkind hcell hnames hcl (hN cl) hi (hg cl) (ht cl) (he cl) hs pins s σ H Q I h
/-- the names that are taken over: free in the block, cells of the frame -/
theorem hk_of {X : Cx} {scope sc : Scope} (hs : X.env.scope = sc) (h : (scope.names.all fun y => y.2 != NameKind.free || sc.names.lookup y.1 == some NameKind.cell || sc.names.lookup y.1 == some NameKind.free) = true) :
    ∀ y ∈ scope.names, y.2 = NameKind.free → X.env.kindOf y.1 = some .cell ∨ X.env.kindOf y.1 = some .free := fun y hy ey => by
  have q := List.all_eq_true.mp h y hy
  unfold Env.kindOf
  rw [hs]
  rw [ey] at q
  simp only [bne_self_eq_false, Bool.false_or, Bool.or_eq_true] at q
  rcases q with q | q
  · exact .inl (eq_of_beq q)
  · exact .inr (eq_of_beq q)
theorem lookup_relabel_free {env : Env} {x : Str} (hk : env.scope.kind = .function) (hx : env.kindOf x = some .cell) : ∀ {names : List (Str × NameKind)}, names.lookup x = some .free →
    (names.map fun (n, k) => if (k == NameKind.free && env.scope.kind == .function && env.kindOf n == some .cell) then (n, NameKind.cell) else (n, k)).lookup x = some .cell
  | [], h => by simp at h
  | (n, k) :: r, h => by
    rw [List.map_cons]
    rw [List.lookup_cons] at h
    by_cases e : (x == n) = true
    · rw [e] at h
      have e' : x = n := eq_of_beq e
      subst e'
      have hf : k = NameKind.free := Option.some.inj h
      subst hf
      have c : (NameKind.free == NameKind.free && env.scope.kind == .function && env.kindOf x == some .cell) = true := by rw [hk, hx]; rfl
      rw [show (match ((x, NameKind.free) : Str × NameKind) with | (n, k) => if (k == NameKind.free && env.scope.kind == .function && env.kindOf n == some .cell) = true then (n, NameKind.cell) else (n, k)) = (x, NameKind.cell) from if_pos c]
      rw [List.lookup_cons, beq_self_eq_true]
    · have e0 : (x == n) = false := by simpa using e
      rw [e0] at h
      have ih := lookup_relabel_free hk hx h
      have en : ∀ q : Str × NameKind, q.1 = n → (q :: (r.map fun (n, k) => if (k == NameKind.free && env.scope.kind == .function && env.kindOf n == some .cell) then (n, NameKind.cell) else (n, k))).lookup x = some .cell := fun q hq => by
        obtain ⟨q1, q2⟩ := q
        simp only at hq
        subst hq
        rw [List.lookup_cons, e0]
        exact ih
      refine en _ ?_
      show (if _ then (n, NameKind.cell) else (n, k)).1 = n
      split <;> rfl
theorem blkN_by {X : Cx} {N' N : List Str} {scope sc : Scope} {cl : List (Str × Addr)} {σ : St} (ts : List (Option Nat)) (hN : X.N = N) (hsc : X.env.scope = sc) (hl : ts.length = N'.length) (hk : sc.kind = .function)
    (h : ((ts.zip N').all fun p => match p.1 with | none => true | some j => N[j]? == some p.2 && sc.names.lookup p.2 == some NameKind.cell && scope.names.lookup p.2 == some NameKind.free) = true) :
    BlkN X N' scope cl σ (ts.map fun t => t.bind fun j => (σ[j]?).join) := by
  refine ⟨by rw [List.length_map, hl], fun i x v h1 h2 => ?_⟩
  rw [List.getElem?_map] at h2
  cases ht : ts[i]? with
  | none => rw [ht] at h2; cases h2
  | some t =>
    rw [ht] at h2
    have h2' : (t.bind fun j => (σ[j]?).join) = some v := Option.some.inj h2
    cases t with
    | none => cases h2'
    | some j =>
      have hm : (some j, x) ∈ ts.zip N' := List.mem_of_getElem? (by rw [List.getElem?_zip_eq_some]; exact ⟨ht, h1⟩ : (ts.zip N')[i]? = some (some j, x))
      have q := List.all_eq_true.mp h _ hm
      simp only [Bool.and_eq_true] at q
      obtain ⟨⟨q1, q2⟩, q3⟩ := q
      have q1' := eq_of_beq q1
      have q2' := eq_of_beq q2
      have q3' := eq_of_beq q3
      have kd : X.env.kindOf x = some .cell := by
        unfold Env.kindOf
        rw [hsc]
        exact q2'
      refine ⟨j, by rw [hN]; exact q1', ?_, by rw [hsc]; exact .inr (.inl q2'), (by rw [kd]; decide), .inl (lookup_relabel_free (by rw [hsc]; exact hk) kd q3')⟩
      have h3 : (σ[j]?).join = some v := h2'
      cases hj : σ[j]? with
      | none => rw [hj] at h3; cases h3
      | some o => rw [hj] at h3; cases o with
        | none => cases h3
        | some u => cases h3; rfl
end L2

namespace L2
open PySem PySem.Spec PyProof.Rows
/-! ### name = [ .. for .. ]: the name is stored ahead of the block's end -/
theorem ps_comp {X : Cx} {iy : Nat} {y : Str} {py spos : Pos} {elt tg iter : Expr} {ifs : List Expr} {scope : Scope} {pos : Pos} {N' : List Str} {cl : List (Str × Addr)} {wi : TI} {g : TG} {tt : TT} {te : TE} (σf : St → St)
    (hc : X.calm = true) (hkind : scope.kind = .function) (hcell : ∀ y ∈ scope.names, y.2 ≠ .cell) (hnames : ∀ y ∈ scope.names, y.2 = .local → scope.names.lookup y.1 = some .local) (hcl : ClOk X scope cl)
    (hN : ∀ σ : St, σ.length = X.N.length → BlkN X N' scope cl σ (σf σ)) (hi : PI X tg iter wi)
    (hg : ∀ C s₀ H₀ ex pn, PG (blk X N' scope cl C s₀ H₀ ex pn) tg g) (ht : ∀ C s₀ H₀ ex pn, PIfs (blk X N' scope cl C s₀ H₀ ex pn) ifs tt) (he : ∀ C s₀ H₀ ex pn, PE (blk X N' scope cl C s₀ H₀ ex pn) elt te)
    (hnd : X.N.Nodup) (hiy : X.N[iy]? = some y) (hy : Loc X.env.scope y) (hfy : X.fn y = true ∨ X.env.scope.names.lookup y = some .local)
    (hsw : swapsWith (.ListComp elt [⟨tg, iter, ifs, 0⟩] scope pos) (some (.Name y py)) spos.line X.env = pure true)
    (hs : ∀ x, foldedSetIterable iter X.env x = pure x := by intro _; rfl) : PS X (.Assign [.Name y py] (.ListComp elt [⟨tg, iter, ifs, 0⟩] scope pos) spos) (tAsg (tComp σf wi g tt te) (gName iy)) := by
  intro pins s σ H Dn I h
  rw [exec_Assign_Name_used _ _ _ _ hsw]
  refine wpAny_bind (wpAny_standAt (wpAny_bind ?_))
  show wpAny _ X.A (do let _ ← comprehension (.ListComp elt [⟨tg, iter, ifs, 0⟩] scope pos) scope X.env _ (newList []) false (eval iter X.env) (some (assign (.Name y py) X.env))) _ _ s
  refine wpAny_bind (wpAny_mono (wpAny_comprehension_free (use := some (assign (.Name y py) X.env)) (Q := fun _ s' => SP X pins Dn .next s') rfl hs hcl.run hkind hnames
    (thn (hi pins s σ H _ I h) fun v s1 h1 => thn h1 fun itv s2 h2 => ?_)) (fun _ s' hq => wpAny_pure (wpAny_pure hq)) fun _ _ e => e)
  obtain ⟨it, fp, tn, J, H2, rfl, I2, T, st2, f2, q⟩ := h2
  refine wpAny_newObj_type (wpAny_newFunctionEnv hcell (by intro y hy; simp at hy) (fun h₁ hns₁ hsb₁ => ?_) hkind)
  dsimp only at hns₁ hsb₁ ⊢
  have hfo : ∀ b ∈ fp, b < s2.heap.objs.size := fun b hb => by
    obtain ⟨o, e, _⟩ := T.obj _ _ st2 b hb
    exact Heap.lt_size e
  have hDf : H2 s2.heap.objs.size = none := I2.hok.fresh (Nat.le_refl _)
  obtain ⟨W, ⟨m0, w0⟩, turn⟩ := q s2.heap.objs.size hDf
  have I3 : Inv X pins σ (upd H2 s2.heap.objs.size (.lst [])) { s2 with heap := s2.heap.push { cls := .type "list", data := .seq ([] : List Value).toArray } } := I2.lnew (its := []) (t' := s2.toks) .nil (Nat.zero_le _)
  have f3 : ∀ b ∈ fp, FpOk X pins (upd H2 s2.heap.objs.size (.lst [])) b := fun b hb => ⟨by rw [upd_ne (Nat.ne_of_lt (hfo b hb))]; exact (f2 b hb).1, (f2 b hb).2⟩
  generalize hD : s2.heap.objs.size = D at *
  generalize hs3 : ({ s2 with heap := s2.heap.push { cls := .type "list", data := .seq ([] : List Value).toArray } } : Shared) = s3 at *
  have hh3 : s3.heap = s2.heap.push { cls := .type "list", data := .seq ([] : List Value).toArray } := by rw [← hs3]
  have hsz3 : s2.heap.objs.size < s3.heap.objs.size := by rw [hh3, Heap.size_push]; exact Nat.lt_succ_self _
  have e3 : ∀ h t, ({ s2 with heap := h, toks := t } : Shared) = { s3 with heap := h, toks := t } := fun h t => by rw [← hs3]
  rw [← hh3] at hns₁ hsb₁ ⊢
  have hk3 : ∀ b o, s3.heap.get? b = some o → h₁.get? b = some o := fun b o e => hsb₁.extBut b o (Nat.ne_of_lt (Heap.lt_size e)) (Heap.get?_push_of_some _ e)
  have I4 := blk_start (t' := s3.toks) I3 hkind hcl (hN σ I.len) f3 (fun b hb => Nat.lt_trans (hfo b hb) (hD ▸ hsz3)) (hns := by simpa using hns₁) hk3
  generalize hB : blk X N' scope cl s3.heap.objs.size s3 (upd H2 D (.lst [])) fp (X.pn ++ pins) = B at *
  have hBp : B.prog = X.prog := by rw [← hB]; rfl
  have hBw : B.w = X.w := by rw [← hB]; rfl
  have hBK : B.K = X.K := by rw [← hB]; rfl
  have hBA : B.A = X.A := by rw [← hB]; rfl
  have hBc : B.calm = true := by rw [← hB]; exact hc
  have hBe : B.env = compEnvC scope cl s3.heap.objs.size X.env := by rw [← hB]; rfl
  have hBx : B.xe = fun _ _ => False := by rw [← hB]; rfl
  have hGB : PG B tg g := hB ▸ hg _ _ _ _ _
  have hTB : PIfs B ifs tt := hB ▸ ht _ _ _ _ _
  have hEB : PE B elt te := hB ▸ he _ _ _ _ _
  have stat : ∀ {H' : Hp}, (∀ b ∈ fp, H' b = none) → ∀ b ∈ fp, FpOk B [] H' b := fun {H'} hn b hb => by
    obtain ⟨f0, f1, f2', f3', f4, f5⟩ := f3 b hb
    rw [← hB]
    refine ⟨hn b hb, Nat.ne_of_lt (Nat.lt_trans (hfo b hb) (hD ▸ hsz3)), fun z => ?_, .inl hb, fun x c e => f4 x c (hcl.sub x c e), fun p hp => ?_⟩
    · rcases List.mem_cons.mp (I.stkSub b z) with z | z
      · exact f1 z
      · exact f2' z
    · rw [show (blk X N' scope cl s3.heap.objs.size s3 (upd H2 D (.lst [])) fp (X.pn ++ pins)).pn = X.pn ++ pins from rfl, List.append_nil] at hp
      exact f5 p hp
  have loop : ∀ s4 : Shared, Inv B [] (σf σ) (upd H2 D (.lst [])) s4 → tn 0 s4.heap →
      codeAny (model X.prog X.w) X.A (.compLoop (.ListComp elt [⟨tg, iter, ifs, 0⟩] scope pos) 0 (.ref it) (.ref D) (compEnvC scope cl s3.heap.objs.size X.env)) (compPost (model X.prog X.w) X.A X.xe (some (assign (.Name y py) X.env)) (fun _ s' => SP X pins Dn .next s') (.ref D) s3.heap.objs.size) s4 := by
    intro s4 I4 st4
    refine compLoop_gen (I := fun n s' => ∃ i ys H', Inv B [] (σf σ) H' s' ∧ tn i s'.heap ∧ (∀ b ∈ fp, H' b = none) ∧ W i n ys H') ?_ m0 ⟨0, [], _, I4, st4, fun b hb => (f3 b hb).1, w0⟩
    rintro n s5 ⟨i, ys, H5, I5, st5, fr5, w5⟩
    obtain ⟨hD5, hlen5, alt⟩ := turn i n ys H5 w5
    rcases alt with ⟨stop, qn⟩ | ⟨go, step⟩
    · have z := T.done B hBp hBw hBK hBc i [] s5 (σf σ) H5 (fun _ _ => False) I5 (stat fr5) st5 stop
      rw [hBA] at z
      refine thn z fun r s6 ⟨hr, I6⟩ => ?_
      subst hr
      obtain ⟨m6, hn6, _⟩ := I6.loc
      rw [hBe] at hn6
      subst hB
      have I6x : Inv X pins σ H5 s6 := blk_end I3 f3 I6 (h'' := s6.heap) ⟨rfl, fun _ _ => rfl⟩
      have fC : FpOk X pins H5 s3.heap.objs.size := I3.fpOk (Nat.le_refl _) I6.free
      obtain ⟨g0, g1, g2, g3, g4, g5⟩ := id fC
      obtain ⟨oC, es, ep, hoC, hdC, rest⟩ := hn6
      have I6p := I6x.pinned (fp := [s3.heap.objs.size]) (fun b hb => by rw [List.mem_singleton.mp hb]; exact fC) (fun b hb => ⟨oC, by rw [List.mem_singleton.mp hb]; exact hoC, fun v e => by rw [hdC] at e; cases e⟩)
      show wpAny (model X.prog X.w) X.A (assign (.Name y py) X.env (.ref D)) _ X.xe s6
      refine thn (pg_name (i := iy) (pos := py) hnd hiy hy hfy _ s6 σ H5 (.ref D) (.ref D) (fun σ' H' => Dn.nx σ' H') I6p rfl qn) fun _ s7 ⟨σ7, H7, I7, q7⟩ => ?_
      have pc := I7.pin (s3.heap.objs.size, oC) (List.mem_append_right _ (List.mem_append_right _ (mem_pinsAt (by simp) hoC)))
      refine ⟨m6, ⟨oC, es, ep, pc.1, hdC, rest⟩, fun h' hs' => ⟨σ7, H7, ?_, q7⟩⟩
      exact I7.unpinned.turned (t' := s7.toks) (fun b o hb e => hs'.extBut b o hb e) pc.2.1 g1 g3 g4 g5
    · have z := T.item B hBp hBw hBK hBc i [] s5 (σf σ) H5 (fun _ _ => False) I5 (stat fr5) st5 go
      rw [hBA] at z
      refine thn z fun r s6 ⟨u, hr, h6⟩ => ?_
      subst hr
      refine thn h6 fun _ s7 ⟨x, H7, I7, r7, y7, st7, fr7⟩ => ?_
      have I7' := I7.pinned (stat fr7) (T.obj _ _ st7)
      have z8 := hGB _ s7 (σf σ) H7 x u _ I7' r7 (step x H7 y7)
      rw [hBp, hBw, hBA, hBe, hBx] at z8
      refine thn z8 fun _ s8 ⟨σ8, H8, I8, k8, q8⟩ => ?_
      have z9 := hTB _ s8 σ8 H8 _ I8 q8
      rw [hBp, hBw, hBA, hBe, hBx] at z9
      refine thn z9 fun ok s9 ⟨H9, I9, q9⟩ => ?_
      have again : ∀ {ys' : List V} {H' : Hp} {s' : Shared}, Inv B ([] ++ pinsAt fp s7.heap) σ8 H' s' → (∃ m', m' < n ∧ W (i + 1) m' ys' H') → ∃ m, m < n ∧ ∃ i ys H', Inv B [] (σf σ) H' s' ∧ tn i s'.heap ∧ (∀ b ∈ fp, H' b = none) ∧ W i m ys H' := fun {ys' H' s'} J ⟨m', hm, w'⟩ => by
        refine ⟨m', hm, i + 1, ys', H', J.unpinned.weak k8.len.symm k8.at', T.keep _ _ _ st7 fun b hb o e => (J.pin (b, o) (List.mem_append_right _ (List.mem_append_right _ (mem_pinsAt hb e)))).1, fun b hb => ?_, w'⟩
        obtain ⟨o, e, d⟩ := T.obj _ _ st7 b hb
        exact (J.pin (b, o) (List.mem_append_right _ (List.mem_append_right _ (mem_pinsAt hb e)))).2.1
      cases ok with
      | false => exact again I9 q9
      | true =>
        have z10 := hEB _ s9 σ8 H9 _ I9 q9
        rw [hBp, hBw, hBA, hBe, hBx] at z10
        refine thn z10 fun y10 s10 ⟨y, H10, I10, r10, hD10, q10⟩ => ?_
        have z11 := mt_append (X := B) _ s10 σ8 H10 (.ref D) [y] (.ref D) [y10] (fun _ H' => ∃ m', m' < n ∧ W (i + 1) m' (ys ++ [y]) H') I10 rfl (.cons r10 .nil) ⟨D, ys, y, rfl, rfl, hD10, hlen5, q10⟩
        rw [hBp, hBw, hBA, hBx] at z11
        refine thn z11 fun _ s11 ⟨_, H11, I11, _, q11⟩ => again I11 q11
  have st4 : tn 0 ({ s3 with heap := h₁, toks := s3.toks } : Shared).heap := T.keep _ _ _ st2 fun b hb o e => hk3 b o (by rw [hh3]; exact Heap.get?_push_of_some _ e)
  have L4 := loop _ I4 st4
  subst hs3
  exact codeAny_compStart_list L4 (T.self _ 0 _ _ _ st4 L4)
end L2

namespace L2
open PySem PySem.Spec PyProof.Rows
/-! ### comprehensions, by what each element is -/
/-- an iterator that gives the things xs, as long as the heap only grows -/
structure Ys (J : It) (xs : List V) (H1 : Hp) : Prop where
  go : ∀ i H, Same H1 H → i < xs.length → J.go i H
  yld : ∀ i H x H', Same H1 H → i < xs.length → J.yld i H x H' → H' = H ∧ xs[i]? = some x
  stop : ∀ i H, Same H1 H → xs.length ≤ i → J.stop i H
theorem Ys.list {K : PySem.W.Frag} {a : Addr} {xs : List V} {H1 : Hp} (h : SqL K H1 a xs) : Ys (Itl K a) xs H1 where
  go := fun i H s hi => ⟨xs, xs[i], s.seq h, List.getElem?_eq_getElem hi⟩
  yld := fun i H x H' s _ y => ⟨y.1, y.2 xs (s.seq h)⟩
  stop := fun i H s hi => ⟨xs, s.seq h, hi⟩
theorem Ys.tup {K : PySem.W.Frag} {a : Addr} {xs : List V} {H1 : Hp} (h : SqT K H1 a xs) : Ys (Itt K a) xs H1 where
  go := fun i H s hi => ⟨xs, xs[i], s.tup h, List.getElem?_eq_getElem hi⟩
  yld := fun i H x H' s _ y => ⟨y.1, y.2 xs (s.tup h)⟩
  stop := fun i H s hi => ⟨xs, s.tup h, hi⟩
def rngV (lo : Int) (n : Nat) : List V := (List.range n).map fun (i : Nat) => V.int (lo + (i : Int))
theorem rngV_len (lo : Int) (n : Nat) : (rngV lo n).length = n := by unfold rngV; rw [List.length_map, List.length_range]
theorem rngV_get {lo : Int} {n i : Nat} {x : V} (h : (rngV lo n)[i]? = some x) : i < n ∧ x = .int (lo + i) := by
  have hi : i < n := by rw [← rngV_len lo n]; exact (List.getElem?_eq_some_iff.mp h).1
  unfold rngV at h
  rw [List.getElem?_map, List.getElem?_range hi] at h
  exact ⟨hi, (Option.some.inj h).symm⟩
theorem Ys.rng {lo : Int} {n : Nat} {H1 : Hp} : Ys (Itr lo n) (rngV lo n) H1 where
  go := fun i H _ hi => by rw [rngV_len] at hi; exact hi
  yld := fun i H x H' _ hi y => ⟨y.1, by
    obtain ⟨_, rfl⟩ := y
    rw [rngV_len] at hi
    unfold rngV
    rw [List.getElem?_map, List.getElem?_range hi]
    rfl⟩
  stop := fun i H _ hi => by rw [rngV_len] at hi; exact hi
theorem snoc_get {α : Type} {ys : List α} {y z : α} {j : Nat} (h : (ys ++ [y])[j]? = some z) : (j < ys.length ∧ ys[j]? = some z) ∨ (j = ys.length ∧ z = y) := by
  by_cases hj : j < ys.length
  · rw [List.getElem?_append_left hj] at h
    exact .inl ⟨hj, h⟩
  · rw [List.getElem?_append_right (by omega)] at h
    have e0 : j - ys.length = 0 := by
      cases hz : j - ys.length with
      | zero => rfl
      | succ n => rw [hz] at h; simp at h
    rw [e0] at h
    exact .inr ⟨by omega, by simpa using h.symm⟩
theorem comp_rel {J : It} {xs : List V} {D : Addr} {g : TG} {te : TE} {σ0 : St} {QD : Hp → Prop} {H1 : Hp} (Y : Ys J xs H1) (Pr : Nat → V → V → Hp → Prop) (hP : ∀ i x y H H', Pr i x y H → Tk H H' → Pr i x y H') (hD : H1 D = none) (hl : xs.length ≤ 1000)
    (hs : ∀ i x H' (R : VK), xs[i]? = some x → Same H1 H' → (∀ y H4, Same H' H4 → Pr i x y H4 → R y H4) → g x σ0 H' fun σ2 H2 => Keep σ0 σ2 ∧ te σ2 H2 R)
    (hd : ∀ ys H', Same H1 H' → H' D = some (.lst ys) → ys.length = xs.length → (∀ i x y, xs[i]? = some x → ys[i]? = some y → Pr i x y H') → QD H') :
    ∃ W : Nat → Nat → List V → Hp → Prop, (∃ m, W 0 m [] (upd H1 D (.lst []))) ∧ ∀ i m ys H, W i m ys H → H D = some (.lst ys) ∧ ys.length < sizeLine ∧
      ((J.stop i H ∧ QD H) ∨ (J.go i H ∧ ∀ x H', J.yld i H x H' → g x σ0 H' fun σ2 H2 => Keep σ0 σ2 ∧ tNoIf σ2 H2 fun b H3 =>
        if b = true then te σ2 H3 fun y H4 => H4 D = some (.lst ys) ∧ ∃ m', m' < m ∧ W (i + 1) m' (ys ++ [y]) (upd H4 D (.lst (ys ++ [y]))) else ∃ m', m' < m ∧ W (i + 1) m' ys H3)) := by
  refine ⟨fun i m ys H => m = xs.length - i ∧ i ≤ xs.length ∧ Same H1 H ∧ H D = some (.lst ys) ∧ ys.length = i ∧ ∀ j x y, xs[j]? = some x → ys[j]? = some y → Pr j x y H,
    ⟨_, rfl, Nat.zero_le _, Same.upd hD, upd_same, rfl, fun j x y _ h => by simp at h⟩, ?_⟩
  rintro i m ys H ⟨rfl, hi, sm, hDH, yl, pr⟩
  refine ⟨hDH, small1000 (by omega), ?_⟩
  by_cases hlt : i < xs.length
  · refine .inr ⟨Y.go i H sm hlt, fun x H' y => ?_⟩
    obtain ⟨rfl, hx⟩ := Y.yld i H x H' sm hlt y
    refine hs i x H' _ hx sm fun y H4 s4 py => ?_
    have hD4 := s4 _ _ hDH
    have tk : Tk H4 (upd H4 D (.lst (ys ++ [y]))) := Tk.lst hD4
    refine ⟨hD4, xs.length - (i + 1), by omega, rfl, hlt, fun b o hb => ?_, upd_same, by rw [List.length_append, yl]; rfl, fun j x' y' hx' hy' => ?_⟩
    · rw [upd_ne (ne_of_none hb hD)]
      exact s4 _ _ (sm _ _ hb)
    · rcases snoc_get hy' with ⟨_, hy'⟩ | ⟨e, e'⟩
      · exact hP _ _ _ _ _ (hP _ _ _ _ _ (pr j x' y' hx' hy') (Same.tk s4)) tk
      · subst e'
        have : j = i := by omega
        subst this
        rw [hx] at hx'
        cases hx'
        exact hP _ _ _ _ _ py tk
  · have e : i = xs.length := by omega
    subst e
    exact .inl ⟨Y.stop _ H sm (Nat.le_refl _), hd ys H sm hDH yl pr⟩
/-! ### rules within a comprehension: the module is named, so that the reading does not hang on the block -/
theorem ix_tupK {X : Cx} {K : PySem.W.Frag} (h : X.K = K) : IxR X (rIxT K) := h ▸ ix_tup
/-- a comprehension with a test -/
theorem comp_filt {J : It} {xs : List V} {D : Addr} {g : TG} {tt : TT} {te : TE} {σ0 : St} {QD : Hp → Prop} {H1 : Hp} (Y : Ys J xs H1) (p : V → Bool) (Pr : V → V → Hp → Prop) (hP : ∀ x y H H', Pr x y H → Tk H H' → Pr x y H') (hD : H1 D = none) (hl : xs.length ≤ 1000)
    (hs : ∀ (i : Nat) x H' (R1 : VK) (R2 : Hp → Prop), xs[i]? = some x → Same H1 H' → (p x = true → ∀ y H4, Same H' H4 → Pr x y H4 → R1 y H4) → (p x = false → ∀ H4, Same H' H4 → R2 H4) → g x σ0 H' fun σ2 H2 => Keep σ0 σ2 ∧ tt σ2 H2 fun b H3 => if b = true then te σ2 H3 R1 else R2 H3)
    (hd : ∀ ys H', Same H1 H' → H' D = some (.lst ys) → ys.length = (xs.filter p).length → (∀ (i : Nat) x y, (xs.filter p)[i]? = some x → ys[i]? = some y → Pr x y H') → QD H') :
    ∃ W : Nat → Nat → List V → Hp → Prop, (∃ m, W 0 m [] (upd H1 D (.lst []))) ∧ ∀ i m ys H, W i m ys H → H D = some (.lst ys) ∧ ys.length < sizeLine ∧
      ((J.stop i H ∧ QD H) ∨ (J.go i H ∧ ∀ x H', J.yld i H x H' → g x σ0 H' fun σ2 H2 => Keep σ0 σ2 ∧ tt σ2 H2 fun b H3 =>
        if b = true then te σ2 H3 fun y H4 => H4 D = some (.lst ys) ∧ ∃ m', m' < m ∧ W (i + 1) m' (ys ++ [y]) (upd H4 D (.lst (ys ++ [y]))) else ∃ m', m' < m ∧ W (i + 1) m' ys H3)) := by
  refine ⟨fun i m ys H => m = xs.length - i ∧ i ≤ xs.length ∧ Same H1 H ∧ H D = some (.lst ys) ∧ ys.length = ((xs.take i).filter p).length ∧ ∀ (j : Nat) x y, ((xs.take i).filter p)[j]? = some x → ys[j]? = some y → Pr x y H,
    ⟨_, rfl, Nat.zero_le _, Same.upd hD, upd_same, rfl, fun j x y _ h => by simp at h⟩, ?_⟩
  rintro i m ys H ⟨rfl, hi, sm, hDH, yl, pr⟩
  have yl' : ys.length ≤ xs.length := by
    rw [yl]
    exact Nat.le_trans (List.length_filter_le _ _) (by rw [List.length_take]; omega)
  refine ⟨hDH, small1000 (by omega), ?_⟩
  by_cases hlt : i < xs.length
  · refine .inr ⟨Y.go i H sm hlt, fun x H' y => ?_⟩
    obtain ⟨rfl, hx⟩ := Y.yld i H x H' sm hlt y
    have et : xs.take (i + 1) = xs.take i ++ [x] := by rw [List.take_add_one, hx]; rfl
    refine hs i x H' _ _ hx sm (fun px y H4 s4 py => ?_) (fun px H4 s4 => ?_)
    · have hD4 := s4 _ _ hDH
      have tk : Tk H4 (upd H4 D (.lst (ys ++ [y]))) := Tk.lst hD4
      refine ⟨hD4, xs.length - (i + 1), by omega, rfl, hlt, fun b o hb => ?_, upd_same, ?_, fun j x' y' hx' hy' => ?_⟩
      · rw [upd_ne (ne_of_none hb hD)]
        exact s4 _ _ (sm _ _ hb)
      · rw [et, List.filter_append, List.length_append, List.length_append, yl, List.filter_cons_of_pos px]
        rfl
      · rw [et, List.filter_append, List.filter_cons_of_pos px] at hx'
        rcases snoc_get hx' with ⟨h1, hx'⟩ | ⟨h1, hx'⟩
        · rcases snoc_get hy' with ⟨_, hy'⟩ | ⟨e, _⟩
          · exact hP _ _ _ _ (hP _ _ _ _ (pr j x' y' hx' hy') (Same.tk s4)) tk
          · omega
        · rcases snoc_get hy' with ⟨h2, _⟩ | ⟨_, hy'⟩
          · omega
          · subst hx' hy'
            exact hP _ _ _ _ py tk
    · refine ⟨xs.length - (i + 1), by omega, rfl, hlt, sm.trans s4, s4 _ _ hDH, ?_, fun j x' y' hx' hy' => ?_⟩
      · rw [et, List.filter_append, List.filter_cons_of_neg (by rw [px]; exact Bool.false_ne_true), List.filter_nil, List.append_nil, yl]
      · rw [et, List.filter_append, List.filter_cons_of_neg (by rw [px]; exact Bool.false_ne_true), List.filter_nil, List.append_nil] at hx'
        exact hP _ _ _ _ (pr j x' y' hx' hy') (Same.tk s4)
  · have e : i = xs.length := by omega
    subst e
    rw [List.take_length] at yl pr
    exact .inl ⟨Y.stop _ H sm (Nat.le_refl _), hd ys H sm hDH yl pr⟩
end L2

namespace L2
open PySem PySem.Spec PyProof.Rows
/-! ### zip of a tuple and a list -/
section
variable {prog : Program} {w : World} {A : Around} {E : Value → Shared → Prop} {s : Shared}
/-- the objects of a zip are apart -/
structure Ap (z TI TO i1 i2 : Addr) (f1 f2 : List Addr) : Prop where
  a1 : ∀ b ∈ f1, b ≠ z ∧ b ≠ TO ∧ b ≠ i2
  a2 : ∀ b ∈ f2, b ≠ z ∧ b ≠ TO ∧ b ≠ i1
  m1 : i1 ∈ f1
  m2 : i2 ∈ f2
  tz : TI ≠ z
  tO : TI ≠ TO
  t1 : TI ≠ i1
  t2 : TI ≠ i2
  oz : TO ≠ z
section
variable {z TI TO i1 i2 : Addr} {f1 f2 : List Addr} {n1 n2 k : Nat} {P1 P2 : Nat → Value → Prop} {S1 S2 : Nat → Heap → Prop} {a b : Value}
end
end
/-- the i-th items of a tuple and of a list, in a new tuple -/
def Itz (K : PySem.W.Frag) (a b : Addr) : It :=
  ⟨fun i H => ∃ xs ys, SqT K H a xs ∧ SqL K H b ys ∧ i < xs.length ∧ i < ys.length,
   fun i H v H' => ∃ T, H T = none ∧ v = .ref T ∧ ∀ xs ys, SqT K H a xs → SqL K H b ys → ∃ x y, xs[i]? = some x ∧ ys[i]? = some y ∧ H' = upd H T (.tup [x, y]),
   fun i H => ∃ xs ys, SqT K H a xs ∧ SqL K H b ys ∧ (i = xs.length ∨ (i < xs.length ∧ i = ys.length))⟩
/-- a zip's objects, laid one behind another from n on -/
def ZipSt (n a b : Nat) (i : Nat) (h : Heap) : Prop := IsZip h (n + 4) (n + 2) (n + 3) .none ∧ IsPair h (n + 2) (.ref n) (.ref (n + 1)) ∧ (∃ x y, IsPair h (n + 3) x y) ∧ h.IsTupleIter n a i ∧ h.IsListIter (n + 1) b i
abbrev zo1 (h : Heap) (a : Addr) : Heap := h.push { cls := .type "tuple_iterator", data := .fields #[.ref a, .int 0 0] }
abbrev zo2 (h : Heap) (a b : Addr) : Heap := (zo1 h a).push { cls := .type "list_iterator", data := .fields #[.ref b, .int 0 0] }
abbrev zo3 (h : Heap) (a b : Addr) : Heap := (zo2 h a b).push { cls := .type "tuple", data := .seq #[.ref h.objs.size, .ref (zo1 h a).objs.size] }
abbrev zo4 (h : Heap) (a b : Addr) : Heap := (zo3 h a b).push { cls := .type "tuple", data := .seq #[.none, .none] }
abbrev zo5 (h : Heap) (a b : Addr) : Heap := (zo4 h a b).push { cls := .type "zip", data := .fields #[.none, .bool false, .bool false, .ref (zo2 h a b).objs.size, .ref (zo3 h a b).objs.size] }
def iZip (K : PySem.W.Frag) (ta : TA) : TI := fun σ H R => ta σ H fun vs H1 => ∃ a b, vs = [.ref a, .ref b] ∧ (∃ xs, SqT K H1 a xs) ∧ (∃ ys, SqL K H1 b ys) ∧ R (Itz K a b) H1
end L2

namespace L2
open PySem PySem.Spec PyProof.Rows

/-! ### lists of pairs as tables -/
section
variable {κ : Type} [DecidableEq κ]
def valV (kvs : List (κ × V)) (k : κ) : Option V := (kvs.find? fun kv => decide (kv.1 = k)).map (·.2)
/-- in its place, or at the end -/
def putK (kvs : List (κ × V)) (k : κ) (v : V) : List (κ × V) :=
  if (kvs.any fun kv => decide (kv.1 = k)) = true then kvs.map (fun kv => if kv.1 = k then (kv.1, v) else kv) else kvs ++ [(k, v)]
def dropK (kvs : List (κ × V)) (k : κ) : List (κ × V) := kvs.filter fun kv => decide (kv.1 ≠ k)

theorem valV_pos {p : κ × V} {r : List (κ × V)} {k : κ} (e : p.1 = k) : valV (p :: r) k = some p.2 := by simp [valV, List.find?_cons, e]
theorem valV_neg {p : κ × V} {r : List (κ × V)} {k : κ} (e : ¬ p.1 = k) : valV (p :: r) k = valV r k := by simp [valV, List.find?_cons, e]
theorem valV_any (k : κ) : ∀ kvs : List (κ × V), (kvs.any fun kv => decide (kv.1 = k)) = (valV kvs k).isSome
  | [] => rfl
  | p :: r => by
    rw [List.any_cons]
    by_cases e : p.1 = k
    · simp only [valV_pos e, decide_eq_true e, Bool.true_or, Option.isSome_some]
    · rw [valV_neg e, decide_eq_false e, Bool.false_or]; exact valV_any k r
theorem valV_map (k j : κ) (y : V) : ∀ kvs : List (κ × V), valV (kvs.map fun kv => if kv.1 = k then (kv.1, y) else kv) j = (valV kvs j).map fun x => if j = k then y else x
  | [] => rfl
  | p :: r => by
    have ih := valV_map k j y r
    rw [List.map_cons]
    by_cases h : p.1 = k
    · rw [if_pos h]
      by_cases e : p.1 = j
      · rw [valV_pos (p := (p.1, y)) e, valV_pos e, Option.map_some, if_pos (e.symm.trans h)]
      · rw [valV_neg (p := (p.1, y)) e, valV_neg e, ih]
    · rw [if_neg h]
      by_cases e : p.1 = j
      · rw [valV_pos (p := p) e, valV_pos e, Option.map_some, if_neg (fun z => h (e.trans z))]
      · rw [valV_neg (p := p) e, valV_neg e, ih]
theorem valV_snoc (k j : κ) (y : V) : ∀ kvs : List (κ × V), valV kvs k = none → valV (kvs ++ [(k, y)]) j = if j = k then some y else valV kvs j
  | [], _ => by
    by_cases e : k = j
    · rw [if_pos e.symm]; exact valV_pos (p := (k, y)) e
    · rw [if_neg (fun z => e z.symm)]; exact valV_neg (p := (k, y)) e
  | p :: r, hn => by
    rw [List.cons_append]
    have hk : ¬ p.1 = k := fun z => by rw [valV_pos z] at hn; cases hn
    rw [valV_neg hk] at hn
    have ih := valV_snoc k j y r hn
    by_cases e : p.1 = j
    · rw [valV_pos e, valV_pos e, if_neg (fun z => hk (e.trans z))]
    · rw [valV_neg e, valV_neg e, ih]
theorem valV_put (kvs : List (κ × V)) (k j : κ) (y : V) : valV (putK kvs k y) j = if j = k then some y else valV kvs j := by
  unfold putK
  by_cases a : (kvs.any fun kv => decide (kv.1 = k)) = true
  · rw [if_pos a, valV_map]
    rw [valV_any] at a
    by_cases e : j = k
    · obtain ⟨x, hx⟩ := Option.isSome_iff_exists.mp a
      rw [if_pos e, e, hx, Option.map_some, if_pos rfl]
    · rw [if_neg e]
      cases valV kvs j with
      | none => rfl
      | some x => rw [Option.map_some, if_neg e]
  · rw [if_neg a]
    refine valV_snoc k j y kvs ?_
    rw [valV_any] at a
    cases q : valV kvs k with
    | none => rfl
    | some x => rw [q] at a; exact (a rfl).elim
theorem length_putK (kvs : List (κ × V)) (k : κ) (v : V) : (putK kvs k v).length ≤ kvs.length + 1 := by
  unfold putK
  split
  · rw [List.length_map]; omega
  · rw [List.length_append, List.length_cons, List.length_nil]; omega
theorem RelO.isSome_eq {o : Option V} {u : Option Value} (r : RelO o u) : o.isSome = u.isSome := by
  cases o with
  | none => cases u with
    | none => rfl
    | some _ => exact (show False from r).elim
  | some _ => cases u with
    | none => exact (show False from r).elim
    | some _ => rfl
theorem RelO.getD {o : Option V} {u : Option Value} {d : V} {d' : Value} (r : RelO o u) (rd : RelV d d') : RelV (o.getD d) (u.getD d') := by
  cases o with
  | none => cases u with
    | none => exact rd
    | some _ => exact (show False from r).elim
  | some _ => cases u with
    | none => exact (show False from r).elim
    | some _ => exact r

/-- raw tables of the same keys -/
theorem KV.val {kvs : List (κ × V)} {vs : List (κ × Value)} (r : KV kvs vs) (k : κ) : RelO (valV kvs k) (valueAt vs k) := by
  unfold KV at r
  induction r with
  | nil => exact True.intro
  | @cons p q ps qs h t ih =>
    obtain ⟨h1, h2⟩ := h
    by_cases e : p.1 = k
    · have e' : q.1 = k := h1.symm.trans e
      have b : valueAt (q :: qs) k = some q.2 := by simp [valueAt, List.find?_cons, e']
      rw [valV_pos e, b]; exact h2
    · have e' : ¬ q.1 = k := fun z => e (h1.trans z)
      have b : valueAt (q :: qs) k = valueAt qs k := by simp [valueAt, List.find?_cons, e']
      rw [valV_neg e, b]; exact ih
theorem KV.any {kvs : List (κ × V)} {vs : List (κ × Value)} (r : KV kvs vs) (k : κ) : (kvs.any fun kv => decide (kv.1 = k)) = vs.any fun kv => decide (kv.1 = k) := by
  unfold KV at r
  induction r with
  | nil => rfl
  | cons h t ih => rw [List.any_cons, List.any_cons, ih, h.1]
theorem KV.repl {kvs : List (κ × V)} {vs : List (κ × Value)} (r : KV kvs vs) (k : κ) {y : V} {u : Value} (ry : RelV y u) :
    KV (kvs.map fun kv => if kv.1 = k then (kv.1, y) else kv) (vs.map fun kv => if kv.1 = k then (kv.1, u) else kv) := by
  unfold KV at r ⊢
  induction r with
  | nil => exact .nil
  | @cons p q ps qs h t ih =>
    rw [List.map_cons, List.map_cons]
    refine .cons ?_ ih
    obtain ⟨h1, h2⟩ := h
    by_cases e : p.1 = k
    · rw [if_pos e, if_pos (h1.symm.trans e)]; exact ⟨h1, ry⟩
    · rw [if_neg e, if_neg (fun z => e (h1.trans z))]; exact ⟨h1, h2⟩
theorem KV.put {kvs : List (κ × V)} {vs : List (κ × Value)} (r : KV kvs vs) (k : κ) {y : V} {u : Value} (ry : RelV y u) : KV (putK kvs k y) (stored vs k u) := by
  unfold putK stored
  rw [r.any k]
  by_cases e : (vs.any fun kv => decide (kv.1 = k)) = true
  · rw [if_pos e, if_pos e]; exact r.repl k ry
  · rw [if_neg e, if_neg e]; exact Paired.snoc r ⟨rfl, ry⟩
theorem KV.length {kvs : List (κ × V)} {vs : List (κ × Value)} (r : KV kvs vs) : kvs.length = vs.length := Paired.length r
theorem dropK_le (kvs : List (κ × V)) (k : κ) : (dropK kvs k).length ≤ kvs.length := List.length_filter_le _ _
end


/-! ### a tracked dict, its keys ints and texts or tuples of these -/
theorem kV_is {P : Program} {w : World} {k : Key} {u : Value} (r : RelV (kV k) u) : (mixKind P w).is k u = true := by
  cases k with
  | inl i => obtain ⟨t, e⟩ := (show ∃ t, u = Value.int i t from r); subst e; exact mixKind_int P w i t
  | inr x => obtain ⟨t, e⟩ := (show ∃ t, u = Value.str x t from r); subst e; exact mixKind_str P w x t
theorem items_are {P : Program} {w : World} : ∀ {ks : List Key} {us : List Value}, Vals (ks.map kV) us → ItemsAre (mixKind P w) ks us
  | [], _, r => by rw [List.map_nil] at r; cases r; exact .nil
  | k :: ks, _, r => by
    rw [List.map_cons] at r
    cases r with
    | cons h t => exact .cons (kV_is h) (items_are t)

/-- raw entries of a dict with tuple keys -/
abbrev KT (H : Hp) : List (List Key × V) → List (List Key × Addr × Value) → Prop := Paired fun p q => p.1 = q.1 ∧ H q.2.1 = some (.tup (p.1.map kV)) ∧ RelV p.2 q.2.2
theorem KT.val {H : Hp} {kvs : List (List Key × V)} {xs : List (List Key × Addr × Value)} (r : KT H kvs xs) (k : List Key) : RelO (valV kvs k) ((atKey xs k).map (·.2)) := by
  induction r with
  | nil => exact True.intro
  | @cons p q ps qs h t ih =>
    obtain ⟨h1, _, h2⟩ := h
    by_cases e : p.1 = k
    · have e' : q.1 = k := h1.symm.trans e
      have b : atKey (q :: qs) k = some q.2 := by simp [atKey, List.find?_cons, e']
      rw [valV_pos e, b]; exact h2
    · have e' : ¬ q.1 = k := fun z => e (h1.trans z)
      have b : atKey (q :: qs) k = atKey qs k := by simp [atKey, List.find?_cons, e']
      rw [valV_neg e, b]; exact ih
theorem KT.repl {H : Hp} {kvs : List (List Key × V)} {xs : List (List Key × Addr × Value)} (r : KT H kvs xs) (k : List Key) {y : V} {u : Value} (ry : RelV y u) :
    KT H (kvs.map fun kv => if kv.1 = k then (kv.1, y) else kv) (xs.map (putAt k u)) := by
  induction r with
  | nil => exact .nil
  | @cons p q ps qs h t ih =>
    rw [List.map_cons, List.map_cons]
    refine .cons ?_ ih
    obtain ⟨h1, h2, h3⟩ := h
    unfold putAt
    by_cases e : p.1 = k
    · rw [if_pos e, if_pos (h1.symm.trans e)]; exact ⟨h1, h2, ry⟩
    · rw [if_neg e, if_neg (fun z => e (h1.trans z))]; exact ⟨h1, h2, h3⟩
theorem KT.put {H : Hp} {kvs : List (List Key × V)} {xs : List (List Key × Addr × Value)} (r : KT H kvs xs) (k : List Key) {b : Addr} {y : V} {u : Value} (hb : H b = some (.tup (k.map kV))) (ry : RelV y u) :
    KT H (putK kvs k y) (storedH xs k b u) := by
  have e : (kvs.any fun kv => decide (kv.1 = k)) = (atKey xs k).isSome := by
    rw [valV_any, (r.val k).isSome_eq, Option.isSome_map]
  unfold putK storedH
  rw [e]
  by_cases q : (atKey xs k).isSome = true
  · rw [if_pos q, if_pos q]; exact r.repl k ry
  · rw [if_neg q, if_neg q]; exact Paired.snoc r ⟨rfl, hb, ry⟩
theorem KT.keeps {H H' : Hp} {kvs : List (List Key × V)} {xs : List (List Key × Addr × Value)} (r : KT H kvs xs) (ht : ∀ b ys, H b = some (.tup ys) → H' b = some (.tup ys)) : KT H' kvs xs :=
  Paired.mapP r fun _ _ z => ⟨z.1, ht _ _ z.2.1, z.2.2⟩

section
variable {P : Program} {w : World} {H : Hp} {h : Heap} {a : Addr}
theorem rd_of {u : HO} (ok : HOk P w H h) (e : Rd H a u) : ObjOk P w H h a u := e.ok ok
theorem dk_rd {kvs : List (Key × V)} (ok : HOk P w H h) (e : Rd H a (.dK kvs)) : kvs.length ≤ sizeLine ∧ (a == sysModules) = false ∧ ∃ vs, KV kvs vs ∧ h.DictOf (mixKind P w) a vs :=
  show ObjOk P w H h a (.dK kvs) from rd_of ok e
theorem dk_of {kvs : List (Key × V)} (ok : HOk P w H h) (e : H a = some (.dK kvs)) : kvs.length ≤ sizeLine ∧ (a == sysModules) = false ∧ ∃ vs, KV kvs vs ∧ h.DictOf (mixKind P w) a vs := dk_rd ok (.inl e)
/-- a tracked tuple of ints and texts is a key -/
theorem key_of {ks : List Key} (ok : HOk P w H h) (e : H a = some (.tup (ks.map kV))) : (tupleKind (mixKind P w)).is h ks a := by
  obtain ⟨_, its, r, o, h1, h2, n, h3⟩ := (show ObjOk P w H h a (.tup (ks.map kV)) from ok a _ e)
  exact ⟨o, its.toArray, n, h1, h2, h3, by simpa using items_are r⟩
theorem dt_rd {kvs : List (List Key × V)} (ok : HOk P w H h) (e : Rd H a (.dT kvs)) : kvs.length ≤ sizeLine ∧ (a == sysModules) = false ∧
    ∃ xs, KT H kvs xs ∧ h.DictOfH (tupleKind (mixKind P w)) a xs := by
  obtain ⟨z, y, xs, r, o, es, ep, h1, h2, h3, h4, h5⟩ := (show ObjOk P w H h a (.dT kvs) from rd_of ok e)
  refine ⟨z, y, xs, r, o, es, ep, h1, h2, h3, h4, fun x hx => ?_, h5⟩
  have all : ∀ {l : List (List Key × V)} {m : List (List Key × Addr × Value)}, KT H l m → ∀ x ∈ m, (tupleKind (mixKind P w)).is h x.1 x.2.1 := by
    intro l m q
    induction q with
    | nil => intro x hx; exact nomatch hx
    | @cons p q ps qs hq t ih =>
      intro x hx
      rcases List.mem_cons.mp hx with e | hx
      · subst e
        exact key_of ok (by rw [← hq.1]; exact hq.2.1)
      · exact ih x hx
  exact all r x hx
theorem dt_of {kvs : List (List Key × V)} (ok : HOk P w H h) (e : H a = some (.dT kvs)) : kvs.length ≤ sizeLine ∧ (a == sysModules) = false ∧
    ∃ xs, KT H kvs xs ∧ h.DictOfH (tupleKind (mixKind P w)) a xs := dt_rd ok (.inl e)
end

/-- what the dict at a holds at the key y -/
def DGet (H : Hp) (a : Addr) (y : V) (r : Option V) : Prop :=
  (∃ kvs k, Rd H a (.dK kvs) ∧ y = kV k ∧ r = valV kvs k) ∨ ∃ kvs k b, Rd H a (.dT kvs) ∧ y = .ref b ∧ H b = some (.tup (k.map kV)) ∧ r = valV kvs k
/-- the heap behind a[y] = v -/
def DPut (H : Hp) (a : Addr) (y v : V) (H' : Hp) : Prop :=
  (∃ kvs k, H a = some (.dK kvs) ∧ y = kV k ∧ kvs.length < sizeLine ∧ H' = upd H a (.dK (putK kvs k v))) ∨
  ∃ kvs k b, H a = some (.dT kvs) ∧ y = .ref b ∧ H b = some (.tup (k.map kV)) ∧ kvs.length < sizeLine ∧ H' = upd H a (.dT (putK kvs k v))
theorem DGet.k {H : Hp} {a : Addr} {kvs : List (Key × V)} {k : Key} (e : H a = some (.dK kvs)) : DGet H a (kV k) (valV kvs k) := .inl ⟨kvs, k, .inl e, rfl, rfl⟩
theorem DGet.t {H : Hp} {a b : Addr} {kvs : List (List Key × V)} {k : List Key} (e : H a = some (.dT kvs)) (eb : H b = some (.tup (k.map kV))) : DGet H a (.ref b) (valV kvs k) := .inr ⟨kvs, k, b, .inl e, rfl, eb, rfl⟩
theorem DPut.t {H : Hp} {a b : Addr} {kvs : List (List Key × V)} {k : List Key} {v : V} (e : H a = some (.dT kvs)) (eb : H b = some (.tup (k.map kV))) (hl : kvs.length < sizeLine) :
    DPut H a (.ref b) v (upd H a (.dT (putK kvs k v))) := .inr ⟨kvs, k, b, e, rfl, eb, hl, rfl⟩


section
variable {X : Cx} {pins : List (Addr × Obj)} {σ : St} {H : Hp} {s : Shared} {a : Addr} {y v : V} {u r : Value} {o : Option V} {A : Around} {E : Value → Shared → Prop}

theorem Inv.big (I : Inv X pins σ H s) : sysModules < s.heap.objs.size := by
  have h : mainGlobals < s.heap.objs.size := (I.mod.glob.keeps I.bk).lt
  exact Nat.lt_trans (by decide) h

/-- d[y], there -/
theorem d_getItem {Q : Value → Shared → Prop} (hu : A.units + 1 < cLine) (I : Inv X pins σ H s) (g : DGet H a y (some v)) (ry : RelV y u) (h : ∀ w' s', Inv X pins σ H s' → RelV v w' → Q w' s') :
    wpAny (model X.prog X.w) A (getItem (.ref a) u) Q E s := by
  rcases g with ⟨kvs, k, e, ey, l⟩ | ⟨kvs, k, b, e, ey, eb, l⟩
  · subst ey
    obtain ⟨z, hd, vs, rel, dd⟩ := dk_rd I.hok e
    obtain ⟨w', hw, rw'⟩ := RelO.some_of (v := v) (o := valueAt vs k) (by rw [l]; exact rel.val k)
    exact wpAny_getItem_of (kV_is ry) dd.mapOf hw (h w' _ (I.tok _) rw')
  · subst ey
    cases (show u = Value.ref b from ry)
    obtain ⟨z, hd, xs, rel, dd⟩ := dt_rd I.hok e
    obtain ⟨w', hw, rw'⟩ := RelO.some_of (v := v) (o := (atKey xs k).map (·.2)) (by rw [l]; exact rel.val k)
    obtain ⟨p, hp, hp2⟩ := Option.map_eq_some_iff.mp hw
    refine wpAny_getItem_heap (tupleKind_room_in1 hu) (key_of I.hok eb) dd hp ?_
    rw [hp2]
    exact h w' _ (I.tok _) rw'
/-- y in d -/
theorem d_in {Q : Value → Shared → Prop} (hu : A.units + 1 < cLine) (I : Inv X pins σ H s) (g : DGet H a y o) (ry : RelV y u) (h : ∀ s', Inv X pins σ H s' → Q (.bool o.isSome) s') :
    wpAny (model X.prog X.w) A (compareOp .In u (.ref a)) Q E s := by
  rcases g with ⟨kvs, k, e, ey, l⟩ | ⟨kvs, k, b, e, ey, eb, l⟩
  · subst ey
    obtain ⟨z, hd, vs, rel, dd⟩ := dk_rd I.hok e
    refine wpAny_in_of (kV_is ry) hd dd.mapOf ?_
    rw [← (rel.val k).isSome_eq, ← l]
    exact h _ (I.tok _)
  · subst ey
    cases (show u = Value.ref b from ry)
    obtain ⟨z, hd, xs, rel, dd⟩ := dt_rd I.hok e
    refine wpAny_in_heap (tupleKind_room_in1 hu) (key_of I.hok eb) hd dd ?_
    have q := (rel.val k).isSome_eq
    rw [Option.isSome_map] at q
    rw [← q, ← l]
    exact h _ (I.tok _)
/-- a dict's object is replaced -/
theorem d_write {h' : Heap} {t' : Nat} {ob : HO} (I : Inv X pins σ H s) (mu : Mut (H a)) (hs : Heap.SameBut a s.heap h') (he : ∃ q, h'.get? a = some q) (new : ObjOk X.prog X.w (upd H a ob) h' a ob) :
    Inv X pins σ (upd H a ob) { s with heap := h', toks := t' } :=
  I.write (x := a) (e := a) mu (.inl rfl) (fun b q hb z => (hs.2 b hb).trans z) he new
theorem dk_new {P : Program} {w : World} {H' : Hp} {h' : Heap} {kvs : List (Key × V)} {vs : List (Key × Value)} (z : kvs.length ≤ sizeLine) (hd : (a == sysModules) = false) (rel : KV kvs vs) (dd : h'.DictOf (mixKind P w) a vs) :
    ObjOk P w H' h' a (.dK kvs) := ⟨z, hd, vs, rel, dd⟩
/-- d[y] = v -/
theorem d_setItem {H' : Hp} {Q : Unit → Shared → Prop} (hu : A.units + 1 < cLine) (I : Inv X pins σ H s) (g : DPut H a y v H') (ry : RelV y u) (rv : RelV v r) (h : ∀ s', Inv X pins σ H' s' → Q () s') :
    wpAny (model X.prog X.w) A (setItem (.ref a) u r) Q E s := by
  rcases g with ⟨kvs, k, e, ey, l, eH⟩ | ⟨kvs, k, b, e, ey, eb, l, eH⟩
  · subst ey eH
    obtain ⟨z, hd, vs, rel, dd⟩ := dk_of I.hok e
    have hz : vs.length ≤ sizeLine := by rw [← rel.length]; exact z
    have hl : (putK kvs k v).length ≤ sizeLine := by have := length_putK kvs k v; omega
    refine wpAny_setItem_pairs (hsz := hz) (kV_is ry) dd fun h' dd' hs => h _ ?_
    have he : ∃ q, h'.get? a = some q := let ⟨q, _, _, hq, _⟩ := dd'; ⟨q, hq⟩
    exact d_write I (by rw [e]; exact True.intro) hs he (dk_new hl hd (rel.put k rv) dd')
  · subst ey eH
    cases (show u = Value.ref b from ry)
    obtain ⟨z, hd, xs, rel, dd⟩ := dt_of I.hok e
    have hz : xs.length ≤ sizeLine := by rw [← Paired.length rel]; exact z
    have hl : (putK kvs k v).length ≤ sizeLine := by have := length_putK kvs k v; omega
    refine wpAny_setItem_heap (hsz := hz) (tupleKind_room_in1 hu) (key_of I.hok eb) dd fun h' dd' hs => h _ ?_
    obtain ⟨q, es, ep, hq, h2, h3, h4, _, h5⟩ := dd'
    refine d_write I (by rw [e]; exact True.intro) hs ⟨q, hq⟩ ⟨hl, hd, _, (rel.put k eb rv).keeps fun c ys ec => ?_, q, es, ep, hq, h2, h3, h4, h5⟩
    rw [upd_ne (ne_of ec e (fun z => nomatch z))]
    exact ec
end

section
variable {X : Cx} {pins : List (Addr × Obj)} {σ : St} {H : Hp} {s : Shared} {a : Addr} {kvs : List (Key × V)} {k : Key} {u : Value} {A : Around} {E : Value → Shared → Prop}
/-- len(d) -/
theorem d_len {Q : Value → Shared → Prop} (I : Inv X pins σ H s) (e : Rd H a (.dK kvs)) (h : ∀ t s', Inv X pins σ H s' → Q (.int kvs.length t) s') : wpAny (model X.prog X.w) A (call (.builtin "len") [.ref a]) Q E s := by
  obtain ⟨z, hd, vs, rel, dd⟩ := dk_rd I.hok e
  refine call_len_dict hd dd (by rw [← rel.length]; rw [sizeLine_eq] at z; omega) ?_
  rw [← rel.length]
  exact h _ _ (I.tok _)
end


/-! ### readings and rules -/
/-- the element of a subscription, not a slice -/
def NoSl (i : Expr) : Prop := ∀ ov iv, subscripted i false ov iv = operate [ov, iv] (getItem ov iv)
theorem subD_of {prog : Program} {w : World} {A : Around} {E : Value → Shared → Prop} {s : Shared} {env : Env} {value slice : Expr} {pos : Pos} {T id : String} {Q : Value → Shared → Prop}
    (hl : typeLookup (.type T) "__getitem__" = pure (some (.builtin id))) (hs : NoSl slice)
    (h : wpAny (model prog w) A (eval value env) (fun o s₁ => wpAny (model prog w) A (eval slice env) (fun i s₂ => s₂.TypeIs o T ∧ wpAny (model prog w) A (getItem o i) Q E s₂) E s₁) E s) :
    wpAny (model prog w) A (eval (.Subscript value slice pos) env) Q E s := by
  refine Subscript_ (wpAny_mono h (fun o s₁ h₁ => wpAny_mono h₁ (fun i s₂ h₂ => ?_) fun _ _ x => x) fun _ _ x => x)
  obtain ⟨hT, h₂⟩ := h₂
  unfold subscriptTail
  refine wpAny_bind ?_
  rw [getitemInPython_of_ne hT.not_modules]
  refine wpAny_bind (wpAny_specialOf hT hl ?_)
  have fin : wpAny (model prog w) A (subscripted slice false o i) (fun r s₃ => wpAny (model prog w) A (letTemporaryGo value o r >>= fun _ => pure r) Q E s₃) E s₂ := by
    rw [hs o i]
    exact wpAny_operating (wpAny_mono h₂ (fun r s₃ h₃ => wpAny_bind (wpAny_letTemporaryGo (wpAny_pure h₃))) fun _ _ x => x)
  first
    | exact wpAny_pure (wpAny_bind fin)
    | exact wpAny_bind (wpAny_pure (wpAny_bind fin))
    | exact wpAny_bind fin

theorem dict_typeIs {X : Cx} {pins : List (Addr × Obj)} {σ : St} {H : Hp} {s : Shared} {a : Addr} {y : V} {o : Option V} (I : Inv X pins σ H s) (g : DGet H a y o) : s.TypeIs (.ref a) "dict" := by
  rcases g with ⟨kvs, k, e, _, _⟩ | ⟨kvs, k, b, e, _, _, _⟩
  · obtain ⟨_, _, vs, _, dd⟩ := dk_rd I.hok e
    exact dd.typeIs
  · obtain ⟨_, _, xs, _, dd⟩ := dt_rd I.hok e
    exact dd.typeIs
/-- d[y] -/
def tDGet (td ty : TE) : TE := fun σ H Q => td σ H fun x H1 => ty σ H1 fun y H2 => ∃ a v, x = .ref a ∧ DGet H2 a y (some v) ∧ Q v H2
/-- y in d, y not in d -/
def tDIn (ty td : TE) : TE := fun σ H Q => ty σ H fun y H1 => td σ H1 fun x H2 => ∃ a o, x = .ref a ∧ DGet H2 a y o ∧ Q (.bl o.isSome) H2
def tDNotIn (ty td : TE) : TE := fun σ H Q => ty σ H fun y H1 => td σ H1 fun x H2 => ∃ a o, x = .ref a ∧ DGet H2 a y o ∧ Q (.bl (!o.isSome)) H2
/-- d[y] = v -/
def sDPut (td ty tv : TE) : TS := fun D σ H => tv σ H fun v H1 => td σ H1 fun x H2 => ty σ H2 fun y H3 => ∃ a H4, x = .ref a ∧ DPut H3 a y v H4 ∧ D.nx σ H4
/-- d[y] op= v -/
def sDAug (td ty tv : TE) (rd : V → V → Hp → VK → Prop) : TS := fun D σ H => td σ H fun x H1 => ty σ H1 fun y H2 => ∃ a v, x = .ref a ∧ DGet H2 a y (some v) ∧
  tv σ H2 fun y2 H3 => rd v y2 H3 fun z H4 => ∃ H5, DPut H4 a y z H5 ∧ D.nx σ H5
/-- del d[y] -/
def sDDel (td ty : TE) : TS := fun D σ H => td σ H fun x H1 => ty σ H1 fun y H2 => ∃ a kvs k, x = .ref a ∧ H2 a = some (.dK kvs) ∧ y = kV k ∧ (valV kvs k).isSome = true ∧ D.nx σ (upd H2 a (.dK (dropK kvs k)))

section
variable {X : Cx} {o i e value : Expr} {pos pos' tpos : Pos} {td ty tv : TE}
theorem pe_dget (hu : X.A.units + 1 < cLine) (ho : PE X o td) (hi : PE X i ty) (hs : NoSl i) : PE X (.Subscript o i pos) (tDGet td ty) := by
  intro pins s σ H Q I h
  refine subD_of PySem.F.slot_dict_getitem.lookup hs (thn (ho pins s σ H _ I h) fun u s1 ⟨x, H1, I1, rx, q1⟩ => thn (hi pins s1 σ H1 _ I1 q1) fun iv s2 ⟨y, H2, I2, ry, a, v, ex, g, q2⟩ => ?_)
  subst ex
  obtain rfl : u = Value.ref a := rx
  exact ⟨dict_typeIs I2 g, d_getItem hu I2 g ry fun w' s3 I3 rw' => ⟨v, H2, I3, rw', q2⟩⟩
theorem pc_din (hu : X.A.units + 1 < cLine) (hi : PE X i ty) (ho : PE X o td) : PC X .In i o (tDIn ty td) := by
  intro pins s σ H Q I h
  refine thn (hi pins s σ H _ I h) fun iv s1 ⟨y, H1, I1, ry, q1⟩ => thn (ho pins s1 σ H1 _ I1 q1) fun u s2 ⟨x, H2, I2, rx, a, ov, ex, g, q2⟩ => ?_
  subst ex
  obtain rfl : u = Value.ref a := rx
  exact d_in hu I2 g ry fun s3 I3 => ⟨.bl ov.isSome, H2, I3, rfl, q2⟩
theorem ps_dput (hu : X.A.units + 1 < cLine) (ho : PE X o td) (hi : PE X i ty) (hv : PE X value tv) (hs : swapsWith value (some (.Subscript o i pos')) pos.line X.env = pure false) :
    PS X (.Assign [.Subscript o i pos'] value pos) (sDPut td ty tv) := by
  intro pins s σ H D I h
  refine wpAny_Assign_Subscript (thn (hv pins s σ H _ I h) fun r s1 ⟨v, H1, I1, rv, q1⟩ => thn (ho pins s1 σ H1 _ I1 q1) fun u s2 ⟨x, H2, I2, rx, q2⟩ => thn (hi pins s2 σ H2 _ I2 q2) fun iv s3 ⟨y, H3, I3, ry, a, H4, ex, g, q3⟩ => ?_) hs
  subst ex
  obtain rfl : u = Value.ref a := rx
  exact d_setItem hu I3 g ry rv fun s4 I4 => ⟨σ, H4, I4, q3⟩
end


/-! ### displays -/
theorem dk_empty {P : Program} {w : World} {H : Hp} (h : Heap) (hb : sysModules < h.objs.size) : ObjOk P w H (h.push { cls := .type "dict", data := .dict #[] }) h.objs.size (.dK []) :=
  ⟨Nat.zero_le _, beq_eq_false_iff_ne.mpr (Ne.symm (Nat.ne_of_lt hb)), [], .nil, Heap.DictOf.new h⟩
theorem dt_empty {P : Program} {w : World} {H : Hp} (h : Heap) (hb : sysModules < h.objs.size) : ObjOk P w H (h.push { cls := .type "dict", data := .dict #[] }) h.objs.size (.dT []) :=
  ⟨Nat.zero_le _, beq_eq_false_iff_ne.mpr (Ne.symm (Nat.ne_of_lt hb)), [], .nil, _, #[], 0, Heap.get?_push_size _ rfl, ⟨rfl, rfl, rfl⟩, rfl, rfl, List.nodup_nil⟩
/-- {}, to be a dict of the kind that is wanted -/
def tDNewK : TE := fun _ H Q => ∀ p, H p = none → Q (.ref p) (upd H p (.dK []))
def tDNewT : TE := fun _ H Q => ∀ p, H p = none → Q (.ref p) (upd H p (.dT []))
section
variable {X : Cx} {pos : Pos}
theorem pe_dnewT : PE X (.Dict [] [] pos) tDNewT := fun pins s σ H Q I h =>
  wpAny_Dict_empty ⟨.ref s.heap.objs.size, _, I.laid (a := s.heap.objs.size) (o := .dT []) (t' := s.toks) (fun _ _ q => Heap.get?_push_of_some _ q) (Nat.le_refl _) (dt_empty s.heap I.big), rfl, h _ (I.hok.fresh (Nat.le_refl _))⟩
end

/-- the pairs of a display, from the left -/
def tPairs : List (TE × TE) → St → Hp → (List (V × V) → Hp → Prop) → Prop
  | [], _, H, Q => Q [] H
  | (tk, tv) :: r, σ, H, Q => tk σ H fun x H1 => tv σ H1 fun y H2 => tPairs r σ H2 fun ps H3 => Q ((x, y) :: ps) H3
abbrev VV : List (V × V) → List (Value × Value) → Prop := Paired fun p q => RelV p.1 q.1 ∧ RelV p.2 q.2
def PPs (X : Cx) (pos : Pos) (keys : List (Option Expr)) (values : List Expr) (trs : List (TE × TE)) : Prop :=
  ∀ (pins : List (Addr × Obj)) (s : Shared) (σ : St) (H : Hp) (Q : List (V × V) → Hp → Prop), Inv X pins σ H s → tPairs trs σ H Q →
    wpAny (model X.prog X.w) X.A (evalPairs (pairTrees keys values X.env pos)) (fun vs s' => ∃ ps H', Inv X pins σ H' s' ∧ VV ps vs ∧ Q ps H') X.xe s
theorem pps_nil {X : Cx} {pos : Pos} : PPs X pos [] [] [] := fun pins s σ H Q I h => pairTrees_nil_walk ⟨[], H, I, .nil, h⟩
theorem pps_cons {X : Cx} {pos : Pos} {k v : Expr} {ks : List (Option Expr)} {vs : List Expr} {tk tv : TE} {trs : List (TE × TE)} (hk : PE X k tk) (hv : PE X v tv) (hr : PPs X pos ks vs trs) :
    PPs X pos (some k :: ks) (v :: vs) ((tk, tv) :: trs) := fun pins s σ H Q I h =>
  pairTrees_cons_walk (thn (hk pins s σ H _ I h) fun u s1 ⟨x, H1, I1, rx, q1⟩ => thn (hv pins s1 σ H1 _ I1 q1) fun w2 s2 ⟨y, H2, I2, ry, q2⟩ =>
    thn (hr pins s2 σ H2 _ I2 q2) fun ws s3 ⟨ps, H3, I3, rel, q3⟩ => ⟨(x, y) :: ps, H3, I3, .cons ⟨rx, ry⟩ rel, q3⟩)

def mergeK (kvs more : List (Key × V)) : List (Key × V) := more.foldl (fun acc kv => putK acc kv.1 kv.2) kvs
theorem KV.merge : ∀ {more : List (Key × V)} {rs : List (Key × Value)} {kvs : List (Key × V)} {vs : List (Key × Value)}, KV more rs → KV kvs vs → KV (mergeK kvs more) (merged vs rs) := by
  intro more rs kvs vs r
  unfold KV at r
  induction r generalizing kvs vs with
  | nil => intro q; exact q
  | @cons p q ps qs h t ih =>
    intro r0
    have e : KV (putK kvs p.1 p.2) (stored vs q.1 q.2) := by
      have := r0.put p.1 h.2
      rw [← h.1]; exact this
    exact ih e
theorem length_mergeK : ∀ (more kvs : List (Key × V)), (mergeK kvs more).length ≤ kvs.length + more.length
  | [], kvs => by show kvs.length ≤ kvs.length + 0; omega
  | p :: r, kvs => by
    have h1 := length_mergeK r (putK kvs p.1 p.2)
    have h2 := length_putK kvs p.1 p.2
    show (mergeK (putK kvs p.1 p.2) r).length ≤ _
    rw [List.length_cons]; omega
theorem carries_of {P : Program} {w : World} : ∀ {kvs : List (Key × V)} {ws : List (Value × Value)}, VV (kvs.map fun kv => (kV kv.1, kv.2)) ws → ∃ rs, Carries (mixKind P w) ws rs ∧ KV kvs rs
  | [], _, r => by rw [List.map_nil] at r; cases r; exact ⟨[], True.intro, .nil⟩
  | p :: kvs, _, r => by
    rw [List.map_cons] at r
    cases r with
    | @cons a b as bs h t =>
      obtain ⟨rs, c, q⟩ := carries_of (P := P) (w := w) t
      obtain ⟨b1, b2⟩ := b
      exact ⟨(p.1, b2) :: rs, ⟨kV_is h.1, rfl, c⟩, .cons ⟨rfl, h.2⟩ q⟩
/-- {k: v, ..} with keys ints and texts; the new dict stands empty while the pairs are made -/
def tDisp (trs : List (TE × TE)) : TE := fun σ H Q => ∀ p, H p = none → tPairs trs σ (upd H p (.dK [])) fun ps H2 => H2 p = some (.dK []) ∧ ∃ kvs : List (Key × V), ps = kvs.map (fun kv => (kV kv.1, kv.2)) ∧ kvs.length ≤ 15 ∧ Q (.ref p) (upd H2 p (.dK (mergeK [] kvs)))
theorem pe_disp {X : Cx} {pos : Pos} {keys : List (Option Expr)} {values : List Expr} {trs : List (TE × TE)} (h : PPs X pos keys values trs) (hall : keys.all (·.isSome) = true) (hl : keys.length = values.length) (h0 : keys ≠ [])
    (h15 : keys.length ≤ 15) : PE X (.Dict keys values pos) (tDisp trs) := by
  intro pins s σ H Q I q
  have hn := I.hok.fresh (Nat.le_refl s.heap.objs.size)
  have I1 := I.laid (a := s.heap.objs.size) (o := .dK []) (h' := s.heap.push { cls := .type "dict", data := .dict #[] }) (t' := s.toks) (fun _ _ q => Heap.get?_push_of_some _ q) (Nat.le_refl _) (dk_empty s.heap I.big)
  refine wpAny_Dict_walk (knd := mixKind X.prog X.w) hall hl h0 h15 (thn (h pins _ σ _ _ I1 (q _ hn)) fun ws s2 ⟨ps, H2, I2, rel, e, kvs, ep, lk, q2⟩ => ?_)
  subst ep
  obtain ⟨rs, c, rk⟩ := carries_of (P := X.prog) (w := X.w) rel
  obtain ⟨z, hd, vs0, r0, dd⟩ := dk_of I2.hok e
  cases r0
  refine ⟨rs, c, dd, fun h' dd' hs => ⟨.ref s.heap.objs.size, _, ?_, rfl, q2⟩⟩
  have hz : (mergeK [] kvs).length ≤ sizeLine := by
    have h1 := length_mergeK kvs []
    rw [List.length_nil] at h1
    rw [sizeLine_eq]; omega
  have he : ∃ q, h'.get? s.heap.objs.size = some q := let ⟨q, _, _, hq, _⟩ := dd'; ⟨q, hq⟩
  exact d_write I2 (by rw [e]; exact True.intro) hs he (dk_new hz hd (rk.merge .nil) dd')


/-! ### methods -/
/-- a method call o.m(e) of a built-in, with one argument: what must be seen of the text -/
structure M1 (X : Cx) (o : Expr) (m : Str) (apos : Pos) (e : Expr) (cpos : Pos) : Prop where
  base : attributeBase o m X.env (eval o X.env) = eval o X.env
  few : ((backTo cpos (starEach [e] X.env)).all (fun x => !x.1) && (backToKw cpos (keywordEach [] X.env)).all (fun x => x.1.isSome)
    && decide (([e] : List Expr).length + ([] : List Keyword).length + (if ([] : List Keyword).isEmpty then 0 else 1) < 30)) = true
  line : (apos.endLine == cpos.line) = true
  trees : backTo cpos (starEach [e] X.env) = [(false, eval e X.env)]
structure M2 (X : Cx) (o : Expr) (m : Str) (apos : Pos) (e f : Expr) (cpos : Pos) : Prop where
  base : attributeBase o m X.env (eval o X.env) = eval o X.env
  few : ((backTo cpos (starEach [e, f] X.env)).all (fun x => !x.1) && (backToKw cpos (keywordEach [] X.env)).all (fun x => x.1.isSome)
    && decide (([e, f] : List Expr).length + ([] : List Keyword).length + (if ([] : List Keyword).isEmpty then 0 else 1) < 30)) = true
  line : (apos.endLine == cpos.line) = true
  trees : backTo cpos (starEach [e, f] X.env) = [(false, eval e X.env), (false, eval f X.env)]

/-- a is a dict, whatever its keys -/
def IsD (H : Hp) (a : Addr) : Prop := (∃ kvs, Rd H a (.dK kvs)) ∨ ∃ kvs, Rd H a (.dT kvs)
theorem isD_at {X : Cx} {pins : List (Addr × Obj)} {σ : St} {H : Hp} {s : Shared} {a : Addr} (I : Inv X pins σ H s) (d : IsD H a) :
    s.TypeIs (.ref a) "dict" ∧ (∀ b, Value.ref a = .ref b → ∃ ob, s.heap.get? b = some ob ∧ ob.dict = none) ∧ (a == sysModules) = false := by
  rcases d with ⟨kvs, e⟩ | ⟨kvs, e⟩
  · obtain ⟨_, hd, vs, _, dd⟩ := dk_rd I.hok e
    refine ⟨dd.typeIs, fun b q => ?_, hd⟩
    cases q
    obtain ⟨ob, _, _, h1, h2, _⟩ := dd
    exact ⟨ob, h1, h2.2.1⟩
  · obtain ⟨_, hd, xs, _, dd⟩ := dt_rd I.hok e
    refine ⟨dd.typeIs, fun b q => ?_, hd⟩
    cases q
    obtain ⟨ob, _, _, h1, h2, _⟩ := dd
    exact ⟨ob, h1, h2.2.1⟩

section
variable {X : Cx} {pins : List (Addr × Obj)} {σ : St} {H : Hp} {s : Shared} {a : Addr} {y d : V} {u r : Value} {o : Option V} {A : Around} {E : Value → Shared → Prop}
/-- d.get(y, x) -/
theorem d_get2 {Q : Value → Shared → Prop} (hu : A.units + 1 < cLine) (I : Inv X pins σ H s) (g : DGet H a y o) (ry : RelV y u) (rd : RelV d r) (h : ∀ w' s', Inv X pins σ H s' → RelV (o.getD d) w' → Q w' s') :
    wpAny (model X.prog X.w) A (call (.builtin "dict.get") [.ref a, u, r]) Q E s := by
  rcases g with ⟨kvs, k, e, ey, l⟩ | ⟨kvs, k, b, e, ey, eb, l⟩
  · subst ey
    obtain ⟨z, hd, vs, rel, dd⟩ := dk_rd I.hok e
    refine call_meetsIn PySem.F.slot_dict_get dd.typeIs PySem.F.entry_dict_get (PySem.F.args_dict_get_3 _ _ _) (meets_dict_get_default (mixKind X.prog X.w) a (kV_is ry) hd r) ⟨_, dd.mapOf, h _ _ (I.tok _) ?_⟩
    rw [l]
    exact (rel.val k).getD rd
  · subst ey
    cases (show u = Value.ref b from ry)
    obtain ⟨z, hd, xs, rel, dd⟩ := dt_rd I.hok e
    refine call_meetsIn PySem.F.slot_dict_get dd.typeIs PySem.F.entry_dict_get (PySem.F.args_dict_get_3 _ _ _) (meetsH_dict_get_default (tupleKind (mixKind X.prog X.w)) a b hd r) ⟨tupleKind_room_in1 hu, k, xs, key_of I.hok eb, dd, h _ _ (I.tok _) ?_⟩
    rw [l]
    exact (rel.val k).getD rd
end

def tDGet1 (td ty : TE) : TE := fun σ H Q => td σ H fun x H1 => ∃ a, x = .ref a ∧ IsD H1 a ∧ ty σ H1 fun y H2 => ∃ o, DGet H2 a y o ∧ Q (o.getD .non) H2
def tDGet2 (td ty tx : TE) : TE := fun σ H Q => td σ H fun x H1 => ∃ a, x = .ref a ∧ IsD H1 a ∧ ty σ H1 fun y H2 => tx σ H2 fun z H3 => ∃ o, DGet H3 a y o ∧ Q (o.getD z) H3
/-- d.pop(k): there; d.pop(k, x): there or not -/
def tDPop1 (td ty : TE) : TE := fun σ H Q => td σ H fun x H1 => ∃ a, x = .ref a ∧ IsD H1 a ∧ ty σ H1 fun y H2 => ∃ kvs k v, H2 a = some (.dK kvs) ∧ y = kV k ∧ valV kvs k = some v ∧ Q v (upd H2 a (.dK (dropK kvs k)))
def tDPop2 (td ty tx : TE) : TE := fun σ H Q => td σ H fun x H1 => ∃ a, x = .ref a ∧ IsD H1 a ∧ ty σ H1 fun y H2 => tx σ H2 fun z H3 => ∃ kvs k, H3 a = some (.dK kvs) ∧ y = kV k ∧
  (∀ v, valV kvs k = some v → Q v (upd H3 a (.dK (dropK kvs k)))) ∧ (valV kvs k = none → Q z H3)
section
variable {X : Cx} {o e f : Expr} {apos cpos : Pos} {td ty tx : TE}
theorem pe_dget2 (hu : X.A.units + 1 < cLine) (ho : PE X o td) (he : PE X e ty) (hf : PE X f tx) (m : M2 X o "get" apos e f cpos) : PE X (.Call (.Attribute o "get" apos) [e, f] [] cpos) (tDGet2 td ty tx) := by
  intro pins s σ H Q I h
  refine wpAny_Call_method m.base m.few m.line PySem.F.plainAttrs_dict PySem.F.slot_dict_get PySem.F.type_dict_get (thn (ho pins s σ H _ I h) fun u s1 ⟨x, H1, I1, rx, a, ex, d, q1⟩ => ?_)
  subst ex
  obtain rfl : u = Value.ref a := rx
  obtain ⟨t1, t2, _⟩ := isD_at I1 d
  refine ⟨t1, t2, ?_⟩
  rw [m.trees]
  refine Calls.callWith_builtin rfl (Calls.evalArgs_plain (Calls.spliced_cons (thn (he pins s1 σ H1 _ I1 q1) fun iv s2 ⟨y, H2, I2, ry, q2⟩ =>
    Calls.spliced_cons (thn (hf pins s2 σ H2 _ I2 q2) fun fv s3 ⟨z, H3, I3, rz, ov, g, q3⟩ => Calls.spliced_nil ?_))))
  exact d_get2 hu I3 g ry rz fun w' s4 I4 rw' => ⟨_, H3, I4, rw', q3⟩
end

/-! ### dict(d): a copy -/
section
variable {X : Cx} {pins : List (Addr × Obj)} {σ : St} {H : Hp} {s : Shared} {a : Addr} {kvs : List (Key × V)} {A : Around} {E : Value → Shared → Prop}
end


section
variable {X : Cx} {pins : List (Addr × Obj)} {σ : St} {H : Hp} {s : Shared} {a : Addr} {y : V} {u : Value} {A : Around} {E : Value → Shared → Prop}
end
end L2

namespace L2
open PySem PySem.Spec PyProof.Rows
/-! ### sorted -/
theorem vals_of_ints : ∀ {us : List Value} {ns : List Int}, IntsAre us ns → Vals (ns.map V.int) us
  | _, _, .nil => .nil
  | _, _, .cons _ _ h => .cons ⟨_, rfl⟩ (vals_of_ints h)
theorem lst_ok {P : Program} {w : World} {H : Hp} {h : Heap} {a : Addr} {xs : List V} {its : List Value} {e : Nat} (hv : Vals xs its) (hz : xs.length ≤ sizeLine) (ho : h.get? a = some (seqObj "list" its.toArray e)) : ObjOk P w H h a (.lst xs) := ⟨hz, its, e, hv, ho⟩
section
variable {X : Cx}
def rSortS (K : PySem.W.Frag) : List V → Hp → VK → Prop := fun xs H Q => ∃ a, ∃ ss : List Str, xs = [.ref a] ∧ SqL K H a (ss.map V.str) ∧ ss.length < 64 ∧ ∀ (p : Addr) (ss' : List Str), ss'.Perm ss → sortedS ss' = true → H p = none → Q (.ref p) (upd H p (.lst (ss'.map V.str)))
def rSortI (K : PySem.W.Frag) : List V → Hp → VK → Prop := fun xs H Q => ∃ a, ∃ ns : List Int, xs = [.ref a] ∧ SqL K H a (ns.map V.int) ∧ ns.length < 64 ∧ ∀ (p : Addr) (ns' : List Int), ns'.Perm ns → ns'.Pairwise (· ≤ ·) → H p = none → Q (.ref p) (upd H p (.lst (ns'.map V.int)))
def rSortDS : List V → Hp → VK → Prop := fun xs H Q => ∃ a kvs, ∃ ss : List Str, xs = [.ref a] ∧ H a = some (.dK kvs) ∧ kvs.map (·.1) = ss.map Sum.inr ∧ kvs.length < 64 ∧ ∀ (p : Addr) (ss' : List Str), ss'.Perm ss → sortedS ss' = true → H p = none → Q (.ref p) (upd H p (.lst (ss'.map V.str)))
def rSortDI : List V → Hp → VK → Prop := fun xs H Q => ∃ a kvs, ∃ ns : List Int, xs = [.ref a] ∧ H a = some (.dK kvs) ∧ kvs.map (·.1) = ns.map Sum.inl ∧ kvs.length < 64 ∧ ∀ (p : Addr) (ns' : List Int), ns'.Perm ns → ns'.Pairwise (· ≤ ·) → H p = none → Q (.ref p) (upd H p (.lst (ns'.map V.int)))
end
end L2

namespace L2
open PySem PySem.Spec PyProof.Rows
variable {X : Cx}
/-! ### xs[::-1] of a list -/
def tRev (K : PySem.W.Frag) (te : TE) (tk : TO) : TE := fun σ H Q => te σ H fun x H1 => tk σ H1 fun st H2 => st = some (-1) ∧ ∃ a xs, x = .ref a ∧ SqL K H2 a xs ∧ ∀ p, H2 p = none → Q (.ref p) (upd H2 p (.lst xs.reverse))
/-! ### list(range(a, b)) -/
def tListRng (ta : TA) : TE := fun σ H Q => ta σ H fun vs H1 => ∃ i j : Int, vs = [.int i, .int j] ∧ (-(2 ^ 62) ≤ i ∧ i < 2 ^ 62 ∧ -(2 ^ 62) ≤ j ∧ j < 2 ^ 62) ∧ (j - i).toNat ≤ 1000 ∧ ∀ p, H1 p = none → Q (.ref p) (upd H1 p (.lst (rngV i (j - i).toNat)))
/-! ### list(d.values()) -/
def tListVals (td : TE) : TE := fun σ H Q => td σ H fun x H1 => ∃ a kvs, x = .ref a ∧ H1 a = some (.dK kvs) ∧ ∀ p, H1 p = none → Q (.ref p) (upd H1 p (.lst (kvs.map (·.2))))
end L2

namespace L2
open PySem PySem.Spec PyProof.Rows
/-- the i-th items of a tuple and of a list, in a new tuple -/
def Itz2 (K : PySem.W.Frag) (a b : Addr) : It :=
  ⟨fun i H => ∃ xs ys, SqT K H a xs ∧ SqT K H b ys ∧ i < xs.length ∧ i < ys.length,
   fun i H v H' => ∃ T, H T = none ∧ v = .ref T ∧ ∀ xs ys, SqT K H a xs → SqT K H b ys → ∃ x y, xs[i]? = some x ∧ ys[i]? = some y ∧ H' = upd H T (.tup [x, y]),
   fun i H => ∃ xs ys, SqT K H a xs ∧ SqT K H b ys ∧ (i = xs.length ∨ (i < xs.length ∧ i = ys.length))⟩
/-- a zip's objects, laid one behind another from n on -/
def ZipSt2 (n a b : Nat) (i : Nat) (h : Heap) : Prop := IsZip h (n + 4) (n + 2) (n + 3) .none ∧ IsPair h (n + 2) (.ref n) (.ref (n + 1)) ∧ (∃ x y, IsPair h (n + 3) x y) ∧ h.IsTupleIter n a i ∧ h.IsTupleIter (n + 1) b i
abbrev yo1 (h : Heap) (a : Addr) : Heap := h.push { cls := .type "tuple_iterator", data := .fields #[.ref a, .int 0 0] }
abbrev yo2 (h : Heap) (a b : Addr) : Heap := (yo1 h a).push { cls := .type "tuple_iterator", data := .fields #[.ref b, .int 0 0] }
abbrev yo3 (h : Heap) (a b : Addr) : Heap := (yo2 h a b).push { cls := .type "tuple", data := .seq #[.ref h.objs.size, .ref (yo1 h a).objs.size] }
abbrev yo4 (h : Heap) (a b : Addr) : Heap := (yo3 h a b).push { cls := .type "tuple", data := .seq #[.none, .none] }
abbrev yo5 (h : Heap) (a b : Addr) : Heap := (yo4 h a b).push { cls := .type "zip", data := .fields #[.none, .bool false, .bool false, .ref (yo2 h a b).objs.size, .ref (yo3 h a b).objs.size] }
def iZip2 (K : PySem.W.Frag) (ta : TA) : TI := fun σ H R => ta σ H fun vs H1 => ∃ a b, vs = [.ref a, .ref b] ∧ (∃ xs, SqT K H1 a xs) ∧ (∃ ys, SqT K H1 b ys) ∧ R (Itz2 K a b) H1
end L2

namespace L2
open PySem PySem.Spec PyProof.Rows
variable {X : Cx}
/-! ### list(d): the keys of a dict, texts -/
def rListD : List V → Hp → VK → Prop := fun xs H Q => ∃ a kvs, ∃ ss : List Str, xs = [.ref a] ∧ H a = some (.dK kvs) ∧ kvs.map (·.1) = ss.map Sum.inr ∧ ∀ p, H p = none → Q (.ref p) (upd H p (.lst (ss.map V.str)))
/-! ### list(range(a, b, c)) -/
def tListRng3 (ta : TA) : TE := fun σ H Q => ta σ H fun vs H1 => ∃ i j c : Int, vs = [.int i, .int j, .int c] ∧ (-(2 ^ 20) ≤ i ∧ i < 2 ^ 20 ∧ -(2 ^ 20) ≤ j ∧ j < 2 ^ 20 ∧ 1 ≤ c ∧ c < 2 ^ 20) ∧ (j - i) / c ≤ 900 ∧
  ∀ p (ms : List Int), (∀ x ∈ ms, i ≤ x ∧ x < j) → (ms.length : Int) ≤ max 0 ((j - i - 1) / c + 1) → H1 p = none → Q (.ref p) (upd H1 p (.lst (ms.map V.int)))
end L2

namespace L2
open PySem PySem.Spec PyProof.Rows
variable {X : Cx}
/-! ### a dict walked: it is held still from then on -/
/-- the keys of a dict that is held still -/
def Itd (d : Addr) (ob : Obj) (kvs : List (Key × V)) : It :=
  ⟨fun i H => H d = some (.frz ob (.dK kvs)) ∧ i < kvs.length, fun i H v H' => H' = H ∧ ∃ kv, kvs[i]? = some kv ∧ v = kV kv.1, fun i H => H d = some (.frz ob (.dK kvs)) ∧ kvs.length ≤ i⟩
def iDict (tl : TE) : TI := fun σ H R => tl σ H fun x H1 => ∃ d kvs, x = .ref d ∧ H1 d = some (.dK kvs) ∧ ∀ ob, R (Itd d ob kvs) (upd H1 d (.frz ob (.dK kvs)))
end L2

namespace L2
open PySem PySem.Spec PyProof.Rows PySem.W
/-! ### try, with the names kept -/
/-- an exception of a callee that is called while the names are σ -/
def PassesAt (CX : CXT) (X : Cx) (σ : St) (E : XK) : Prop := ∀ (pins : List (Addr × Obj)) (H : Hp) (s : Shared) (e : Value) (s' : Shared), Inv X pins σ H s → CX X.stack H s E e s' → X.xe e s'
section
variable {X : Cx}
/-- as tTry, of a body that changes no name: the others stay -/
def tTryS (K : Frag) (i j : Nat) (Dc : Addr) (tb : St → XK → TS) : TS := fun D σ H => tb σ (fun cls dd H' => ∃ C, cls = .ref C ∧ ExK K C ∧ subIn K (.ref C) (.ref Dc) = some true ∧ ∀ a, H' a = none → D.nx (((σ.set i (some (.ref a))).set j (some (.ref a))).set i none) (upd H' a (excD a C dd))) D σ H
end
end L2
namespace L2
open PySem PySem.Spec PyProof.Rows
variable {X : Cx}
/-! ### a dict that is held still, read -/
def rSortDSR : List V → Hp → VK → Prop := fun xs H Q => ∃ a kvs, ∃ ss : List Str, xs = [.ref a] ∧ Rd H a (.dK kvs) ∧ kvs.map (·.1) = ss.map Sum.inr ∧ kvs.length < 64 ∧ ∀ (p : Addr) (ss' : List Str), ss'.Perm ss → sortedS ss' = true → H p = none → Q (.ref p) (upd H p (.lst (ss'.map V.str)))
def tListValsR (td : TE) : TE := fun σ H Q => td σ H fun x H1 => ∃ a kvs, x = .ref a ∧ Rd H1 a (.dK kvs) ∧ ∀ p, H1 p = none → Q (.ref p) (upd H1 p (.lst (kvs.map (·.2))))
end L2

namespace L2
open PySem PySem.Spec PyProof.Rows
/-! ### heaps that grow, in which dicts may come to be held still -/
def Fz (H H' : Hp) : Prop := ∀ b o, H b = some o → H' b = some o ∨ ∃ ob kvs, o = .dK kvs ∧ H' b = some (.frz ob (.dK kvs))
/-- d is held still, all else is as it was -/
def Hld (d : Addr) (ob : Obj) (kvs : List (Key × V)) (H H' : Hp) : Prop := H' d = some (.frz ob (.dK kvs)) ∧ (∀ b, b ≠ d → H' b = H b) ∧ (H d = some (.dK kvs) ∨ H d = some (.frz ob (.dK kvs)))
section
variable {X : Cx}
/-- a dict walked that may be held still already -/
def iDictR (tl : TE) : TI := fun σ H R => tl σ H fun x H1 => ∃ d kvs, x = .ref d ∧ Rd H1 d (.dK kvs) ∧ ∀ ob H2, Hld d ob kvs H1 H2 → R (Itd d ob kvs) H2
/-! ### dict(d), isinstance(d, dict) -/
def rDictD : List V → Hp → VK → Prop := fun xs H Q => ∃ a kvs, xs = [.ref a] ∧ Rd H a (.dK kvs) ∧ ∀ p, H p = none → Q (.ref p) (upd H p (.dK kvs))
/-! ### == and != of dicts that tell the same -/
/-- each value of the one is told by the other -/
def DDeq (K : PySem.W.Frag) (H : Hp) (ka kb : List (Key × V)) : Prop := ka.length = kb.length ∧ ∀ kv ∈ ka, ∃ v' d, valV kb kv.1 = some v' ∧ Dv K H 30 kv.2 d ∧ Dv K H 30 v' d
def rNeDD (K : PySem.W.Frag) : R2 := fun x y H Q => ∃ a b ka kb, x = .ref a ∧ y = .ref b ∧ Rd H a (.dK ka) ∧ Rd H b (.dK kb) ∧ DDeq K H ka kb ∧ Q (.bl false) H
def rEqDD (K : PySem.W.Frag) : R2 := fun x y H Q => ∃ a b ka kb, x = .ref a ∧ y = .ref b ∧ Rd H a (.dK ka) ∧ Rd H b (.dK kb) ∧ DDeq K H ka kb ∧ Q (.bl true) H
end
end L2

namespace L2
open PySem PySem.Spec PyProof.Rows
/-! ### != of two lists of dicts that tell the same, at one program -/
/-- the two are equal, at this program -/
def EqIn (P : Program) (w : World) (A : Around) (s : Shared) (y x : Value) : Prop := ∀ (E : Value → Shared → Prop) (Q : Bool → Shared → Prop), Q true s → wpAny (model P w) A (eqBool y x) Q E s
section
open AutoSeq1 MeetsSeq MeetsSeq2 MeetsSeq3 SeqAt
variable {P : Program} {w : World}
end
section
variable {X : Cx}
def rNeLD (K : PySem.W.Frag) : R2 := fun x y H Q => ∃ a b xs ys, x = .ref a ∧ y = .ref b ∧ SqL K H a xs ∧ SqL K H b ys ∧ xs.length = ys.length ∧
  (∀ (j : Nat) x y, xs[j]? = some x → ys[j]? = some y → ∃ da db ka kb, x = .ref da ∧ y = .ref db ∧ Rd H da (.dK ka) ∧ Rd H db (.dK kb) ∧ DDeq K H ka kb) ∧ Q (.bl false) H
end
end L2

namespace HT
open PySem PyProof.Rows
/-- t < u of tuples of texts -/
def lexLtS : List Str → List Str → Bool
  | [], [] => false
  | [], _ :: _ => true
  | _ :: _, [] => false
  | x :: xs, y :: ys => if x = y then lexLtS xs ys else decide (x.cps.toList < y.cps.toList)
section
open PySem.SeqAt
open PySem.AutoSeq1 (wpAny_loadPart')
open PySem.MeetsSeq PySem.MeetsSeq2 PySem.MeetsSeq3

end

section
variable {prog : Program} {w : World} {A : Around} {E : Value → Shared → Prop} {s : Shared}

end
end HT
namespace L2
open PySem PySem.Spec PyProof.Rows
section
variable {X : Cx}
def rLtTS (K : PySem.W.Frag) : R2 := fun x y H Q => ∃ a b ns ms, x = .ref a ∧ y = .ref b ∧ SqT K H a (ns.map V.str) ∧ SqT K H b (ms.map V.str) ∧ Q (.bl (HT.lexLtS ns ms)) H
end
end L2

namespace HT
open PySem PySem.Spec PyProof.Rows
section
variable {prog : Program} {w : World} {A : Around} {E : Value → Shared → Prop} {s : Shared}
/-- () + u is u -/
theorem cat_tup0 {t b : Addr} {ws : List Value} {Q : Value → Shared → Prop} (ht : IsTup s.heap t #[]) (hb : IsTup s.heap b ws.toArray) (h : Q (.ref b) s) : wpAny (model prog w) A (binaryOp .Add (.ref t) (.ref b)) Q E s := by
  obtain ⟨⟨cls, dd, data, sl⟩, ho, hc, n, hd⟩ := id ht
  obtain ⟨⟨cls2, dd2, data2, sl2⟩, ho2, hc2, n2, hd2⟩ := id hb
  simp only at hc hd hc2 hd2
  subst hc hd hc2 hd2
  exact concat_meets ⟨_, ho, rfl⟩ ⟨_, ho2, rfl⟩ noFill_tuple_add seq_tuple_add PySem.F.slot_tuple_add PySem.F.entry_tuple_add (PySem.F.args_tuple_add_2 _ _)
      (tuple_addW0 t b #[] ws.toArray n n2 dd dd2 sl sl2 (by simp)) ⟨ho, ho2, h⟩
end
end HT
namespace L2
open PySem PySem.Spec PyProof.Rows
section
variable {X : Cx}
/-- () + u -/
def rCatT0 (K : PySem.W.Frag) : R2 := fun x y H Q => ∃ a b ys, x = .ref a ∧ y = .ref b ∧ SqT K H a [] ∧ SqT K H b ys ∧ Q (.ref b) H
theorem op_catT0 : OpR X (binaryOp .Add) (rCatT0 X.K) := by
  intro pins s σ H x y v u Q I rx ry h
  obtain ⟨a, b, ys, rfl, rfl, ha, hb, q⟩ := h
  cases rx
  cases ry
  obtain ⟨its, r1, p1, _⟩ := I.tuple ha
  obtain ⟨its2, r2, p2, _⟩ := I.tuple hb
  cases r1
  exact HT.cat_tup0 p1 p2 ⟨.ref b, H, I, rfl, q⟩
/-- t + u, whatever t is -/
def rCatTA (K : PySem.W.Frag) : R2 := fun x y H Q => rCatT0 K x y H Q ∨ rCatT K x y H Q
theorem op_catTA : OpR X (binaryOp .Add) (rCatTA X.K) := by
  intro pins s σ H x y v u Q I rx ry h
  rcases h with h | h
  · exact op_catT0 pins s σ H x y v u Q I rx ry h
  · exact op_catT pins s σ H x y v u Q I rx ry h
/-- t * k, t not empty, k from 2 on -/
def rRepT (K : PySem.W.Frag) : R2 := fun x y H Q => ∃ a k xs, x = .ref a ∧ y = .int k ∧ SqT K H a xs ∧ xs ≠ [] ∧ 2 ≤ k ∧ k ≤ 1000 ∧ xs.length ≤ 1000 ∧ ∀ p, H p = none → Q (.ref p) (upd H p (.tup (List.replicate k.toNat xs).flatten))
end
end L2

namespace L2
open PySem PySem.Spec PyProof.Rows
/-! ### the statements of a def under names: what follows stays small -/
section
variable {D : Ends} {σ : L2.St} {H : Hp}
end
end L2

namespace L2
open PySem PySem.Spec PyProof.Rows PySem.W
section
variable {X : Cx}
end
end L2
namespace TM
open PySem PySem.Spec PyProof.Rows PySem.W
/-- j unlike things of a list: it is that long -/
theorem pigeon {α : Type} [BEq α] [LawfulBEq α] (f : Nat → α) : ∀ (j : Nat) (l : List α), (∀ i, i < j → f i ∈ l) → (∀ i k, i < j → k < j → f i = f k → i = k) → j ≤ l.length := by
  intro j
  induction j with
  | zero =>
    intro l _ _
    exact Nat.zero_le _
  | succ j ih =>
    intro l hm hi
    have h1 := hm j (Nat.lt_succ_self _)
    have := ih (l.erase (f j)) (fun i hij => (List.mem_erase_of_ne (fun e => by
      have := hi i j (by omega) (by omega) e
      omega)).mpr (hm i (by omega))) (fun i k a b e => hi i k (by omega) (by omega) e)
    rw [List.length_erase_of_mem h1] at this
    have : 0 < l.length := List.length_pos_of_mem h1
    omega
/-- the letter j places on, round the 26 -/
def rd (c j : Nat) : Nat := 97 + (c - 97 + j) % 26
abbrev LET : Str := "abcdefghijklmnopqrstuvwxyz"
theorem at_let {j : Nat} (h : j < 26) : (cps LET)[j]? = some (97 + j) := by
  have all : ∀ k : Fin 26, (cps LET)[k.val]? = some (97 + k.val) := by decide +kernel
  exact all ⟨j, h⟩
end TM

namespace L2
open PySem PySem.Spec PyProof.Rows
/-! ### for over range(a, b, c) -/
def Itr3 (lo c : Int) (n : Nat) : It := ⟨fun i _ => i < n, fun i H x H' => H' = H ∧ x = .int (lo + (i : Nat) * c), fun i _ => n ≤ i⟩
theorem turn_range3 {P : Program} {w : World} {K : PySem.W.Frag} {tg : Expr} (it : Addr) (lo c : Int) (n : Nat) : Turn P w K tg (Itr3 lo c n) [it] it (fun i h => IsRangeIter h it (lo + (i : Nat) * c) ((n : Int) - (i : Nat)) c) where
  mem := by simp
  obj := fun i h st b hb => by
    have e : b = it := by simpa using hb
    subst e
    exact ⟨_, st, fun v z => by
      have z' : Data.fields _ = Data.cell v := z
      cases z'⟩
  keep := fun i h h' st k => k it (by simp) _ st
  item := by
    intro X hP hw hK hc i pins s σ H E I hf st hg
    subst hP hw hK
    obtain ⟨f0, f1, f2, f3, f4, f5⟩ := hf it (by simp)
    have W := Walks.range (prog := X.prog) (w := X.w) (I.ok.hd hc) it lo c n
    refine W.item i s _ _ hg st fun v h' tk hv st' kk => ?_
    obtain ⟨t, rfl⟩ := hv
    have I1 : Inv X pins σ H { s with heap := h', toks := tk } := I.turned (fun b o hb e => kk b o (by simpa using hb) e) f0 f1 f3 f4 f5
    exact ⟨_, rfl, go_of (s := { s with heap := h', toks := tk }) (n := "range_iterator") st' rfl rfl (by decide) ⟨.int (lo + (i : Nat) * c), H, I1, ⟨t, rfl⟩, ⟨rfl, rfl⟩, st', fun b hb => (hf b hb).1⟩⟩
  done := by
    intro X hP hw hK hc i pins s σ H E I hf st hg
    subst hP hw hK
    obtain ⟨f0, f1, f2, f3, f4, f5⟩ := hf it (by simp)
    exact wpAny_pyNext_range_end (I.ok.hd hc) st (by have : n ≤ i := hg; omega) fun h' eb => ⟨rfl, I.turned (t' := s.toks) (fun b o hb e => eb b o hb e) f0 f1 f3 f4 f5⟩
  self := fun _ _ _ _ _ st h => wpAny_pyIter_rangeiter st h
def iRng3 (ta : TA) : TI := fun σ H R => ta σ H fun vs H1 => ∃ i j c : Int, vs = [.int i, .int j, .int c] ∧ (-(2 ^ 20) ≤ i ∧ i ≤ 2 ^ 20 ∧ -(2 ^ 20) ≤ j ∧ j ≤ 2 ^ 20 ∧ 0 < c ∧ c ≤ 2 ^ 20) ∧ R (Itr3 i c (if i < j then (j - i - 1) / c + 1 else 0).toNat) H1
theorem for_range3 {lo c : Int} {n : Nat} {g : TG} {tb : TS} {D : Ends} {σ : St} {H : Hp} (Pv : Nat → St → Hp → Prop) (h0 : Pv 0 σ H)
    (hs : ∀ i σ H, i < n → Pv i σ H → g (.int (lo + (i : Nat) * c)) σ H fun σ2 H2 => tb { D with nx := Pv (i + 1), ct := Pv (i + 1), bk := D.nx } σ2 H2) (hd : ∀ σ H, Pv n σ H → D.nx σ H) :
    ∃ W : Nat → Nat → St → Hp → Prop, (∃ m, W 0 m σ H) ∧ ∀ i m σ H, W i m σ H →
      ((Itr3 lo c n).stop i H ∧ D.nx σ H) ∨ ((Itr3 lo c n).go i H ∧ ∃ N : St → Hp → Prop, (∀ σ' H', N σ' H' → ∃ m', m' < m ∧ W (i + 1) m' σ' H') ∧ ∀ x H', (Itr3 lo c n).yld i H x H' → g x σ H' fun σ2 H2 => tb { D with nx := N, ct := N, bk := D.nx } σ2 H2) := by
  refine ⟨fun i m σ H => m = n - i ∧ i ≤ n ∧ Pv i σ H, ⟨n, by simp, Nat.zero_le _, h0⟩, ?_⟩
  rintro i m σ H ⟨rfl, hi, p⟩
  by_cases hlt : i < n
  · refine .inr ⟨hlt, Pv (i + 1), fun σ' H' p' => ⟨n - (i + 1), by omega, rfl, hlt, p'⟩, fun v H' y => ?_⟩
    obtain ⟨e, rfl⟩ := y
    subst e
    exact hs i σ _ hlt p
  · have e : i = n := by omega
    subst e
    exact .inl ⟨Nat.le_refl _, hd σ H p⟩
end L2

namespace L2
open PySem PySem.Spec PyProof.Rows
/-! ### sorted(xs, reverse=True) of ints -/
def tSortR (K : PySem.W.Frag) (te : TE) : TE := fun σ H Q => te σ H fun x H1 => ∃ (a : Addr) (ns : List Int), x = .ref a ∧ SqL K H1 a (ns.map V.int) ∧ ns.length < 64 ∧
  ∀ (p : Addr) (ns' : List Int), ns'.Perm ns → ns'.Pairwise (· ≥ ·) → H1 p = none → Q (.ref p) (upd H1 p (.lst (ns'.map V.int)))
theorem pe_sortR {X : Cx} {e : Expr} {te : TE} {p pos kp bp : Pos} {j : Nat} (hg : Gl X "sorted") (hm : X.mg "sorted" = none) (he : PE X e te)
    (h1 : backTo pos (starEach [e] X.env) = (false, eval e X.env) :: backTo pos (starEach [] X.env) := by rfl) (h2 : (backTo pos (starEach [e] X.env)).any (·.1) = false := by rfl) :
    PE X (.Call (.Name "sorted" p) [e] [⟨some "reverse", .Constant (.bool true) j bp, kp⟩] pos) (tSortR X.K te) := by
  intro pins s σ H Q I h
  refine wpAny_Call_Name_kw (ld_blt I hg hm boot_sorted (callWith_kw ?_ h1 h2 rfl rfl))
  rw [h1]
  refine Calls.spliced_cons (thn (he pins s σ H _ I h) fun v s1 ⟨x1, H1, I1, r1, a, ns, ex, hl, h64, q⟩ => ?_)
  subst ex
  cases r1
  refine Calls.spliced_nil ?_
  refine kws_cons (thn (pe_bl (b := true) pins s1 σ H1 (fun v H' => v = .bl true ∧ H' = H1) I1 ⟨rfl, rfl⟩) fun u s2 ⟨y, H2, I2, r2, ey, eH⟩ => ?_)
  subst ey eH
  cases r2
  refine kws_nil ?_
  obtain ⟨its, r', pl, hz⟩ := I2.list hl
  have hlen := r'.length
  rw [List.length_map] at hlen
  refine sorted_ints_rev (b := true) (pl.isList) (intsAre_of r') (by omega) fun out ns' a1 a2 a3 => ?_
  obtain ⟨e, he⟩ := sortedAll_at s2.heap its out
  refine ⟨.ref (s2.heap.objs.size + 1), _, I2.laid (a := s2.heap.objs.size + 1) (o := .lst (ns'.map V.int)) (t' := s2.toks) (fun _ _ => sortedAll_old) (Nat.le_succ _) (lst_ok (its := out.toList) (e := e) (vals_of_ints a1) ?_ (by rw [Array.toArray_toList]; exact he)), rfl, q _ ns' a2 a3 (I2.hok.fresh (Nat.le_succ _))⟩
  rw [List.length_map, a2.length_eq]
  exact sz1000 (by omega)
/-! ### for over reversed(range(n)) -/
theorem sub_ri_reversed : isSubtype (.type "range_iterator") (.type "reversed") = pure false := by rw [isSubtype_type]; kernel_rfl
abbrev rngObj (n : Int) (t u v : Tok) : Obj := { cls := .type "range", data := .fields #[.int 0 t, .int n u, .int 1 v] }
abbrev rngIt (n : Int) : Obj := { cls := .type "range_iterator", data := .fields #[rawInt (n - 1), rawInt n, rawInt (-1)] }
section
variable {prog : Program} {w : World} {A : Around} {E : Value → Shared → Prop} {s : Shared}
theorem call_range_reversed {l : Addr} {n : Int} {t u v : Tok} {Q : Value → Shared → Prop} (hl : s.heap.get? l = some (rngObj n t u v)) (h0 : 0 ≤ n) (h1 : n < 2 ^ 62)
    (h : Q (.ref s.heap.objs.size) { s with heap := s.heap.push (rngIt n) }) : wpAny (model prog w) A (call (.builtin "range.__reversed__") [.ref l]) Q E s := by
  refine wpAny_call_entry F.slot_range_reversed ⟨_, hl, rfl⟩ F.entry_range_reversed ?_ (F.args_range_reversed_1 _)
  unfold Builtin.«range.__reversed__»
  refine wpAny_bind (wpAny_of_eq (a := Value.ref l) rfl ?_)
  unfold Builtin.Range.rangeFields
  refine wpAny_bind ?_
  refine wpAny_bind (wpAny_field hl rfl (x := .int 0 t) rfl ?_)
  refine wpAny_bind (wpAny_of_eq (a := some 0) rfl ?_)
  refine wpAny_bind (wpAny_field hl rfl (x := .int n u) rfl ?_)
  refine wpAny_bind (wpAny_of_eq (a := some n) rfl ?_)
  refine wpAny_bind (wpAny_field hl rfl (x := .int 1 v) rfl ?_)
  refine wpAny_bind (wpAny_of_eq (a := some 1) rfl ?_)
  refine wpAny_pure ?_
  have hz : Builtin.Range.rangeSize 0 n 1 = n := by
    rw [rangeSize_one]
    split <;> omega
  dsimp only
  rw [hz]
  have hs : (Builtin.Range.rangeFitsLong 0 && Builtin.Range.rangeFitsLong n && Builtin.Range.rangeFitsLong 1 && Builtin.Range.rangeFitsLong (-1) && Builtin.Range.rangeFitsLong (0 - 1) && Builtin.Range.rangeFitsLong n) = true := by
    simp only [Builtin.Range.rangeFitsLong, Bool.and_eq_true, decide_eq_true_eq]
    omega
  rw [hs]
  rw [if_neg (by decide), if_pos rfl]
  have e : (0 : Int) + (n - 1) * 1 = n - 1 := by omega
  rw [e]
  exact wpAny_bind (wpAny_newObj_type (wpAny_pure ⟨_, rfl, h⟩))
theorem code_reversed_range {l : Addr} {n : Int} {t u v : Tok} {Q₁ : Value → Shared → Prop} (hl : s.heap.get? l = some (rngObj n t u v)) (h0 : 0 ≤ n) (h1 : n < 2 ^ 62)
    (h : Q₁ (.ref s.heap.objs.size) { s with heap := s.heap.push (rngIt n) }) :
    codeAny (model prog w) A (.call (.builtin "reversed.__new__") ⟨[.type "reversed", .ref l], []⟩) (wants Q₁ E) s := by
  refine codeAny_of_tree ?_
  show wpAny _ A.in1 (do checkBuiltinCall "reversed.__new__" ⟨[.type "reversed", .ref l], []⟩; again (.builtin "reversed.__new__" ⟨[.type "reversed", .ref l], []⟩)) _ _ s
  refine wpAny_bind (wpAny_of_eq (F.newCall_reversed_1 _) (wpAny_pure ⟨plainId_quiet F.plain_reversed_new _, codeAny_builtin F.entry_reversed_new ?_⟩))
  rw [Around.under_plainId F.plain_reversed_new _]
  unfold Builtin.«reversed.__new__»
  refine wpAny_bind (wpAny_of_eq (newClass_reversed _) ?_)
  dsimp only
  refine wpAny_bind (wpAny_of_eq (a := ()) (by first | rfl | kernel_rfl) ?_)
  refine wpAny_bind (wpAny_of_eq (a := ()) (by first | rfl | kernel_rfl) ?_)
  refine wpAny_bind (wpAny_specialOf (⟨_, hl, rfl⟩ : s.TypeIs (.ref l) "range") F.slot_range_reversed.lookup ?_)
  dsimp only
  refine wpAny_bind (wpAny_of_eq (F.slot_range_reversed.bind _) ?_)
  dsimp only
  have hne : ¬ ((Value.builtin "range.__reversed__" == Value.none) = true) := Bool.false_ne_true
  show wpAny _ _ (if (Value.builtin "range.__reversed__" == Value.none) = true then _ else _) _ _ _
  rw [if_neg hne]
  refine wpAny_bind (wpAny_rule ?_)
  refine wpAny_bind (m := runValue (.call (.builtin "range.__reversed__") ⟨[.ref l], []⟩)) (show wpAny _ _ (call (.builtin "range.__reversed__") [.ref l]) _ _ _ from call_range_reversed hl h0 h1 ?_)
  first
  | exact wpAny_pure h
  | exact wpAny_bind (wpAny_pure (wpAny_pure h))
theorem call_reversed_range {l : Addr} {n : Int} {t u v : Tok} {Q : Value → Shared → Prop} (hl : s.heap.get? l = some (rngObj n t u v)) (h0 : 0 ≤ n) (h1 : n < 2 ^ 62)
    (h : Q (.ref s.heap.objs.size) { s with heap := s.heap.push (rngIt n) }) : wpAny (model prog w) A (call (.type "reversed") [.ref l]) Q E s := by
  refine callType_other (U := "range_iterator") (Q₁ := fun obj s₁ => obj = .ref s.heap.objs.size ∧ s₁ = { s with heap := s.heap.push (rngIt n) }) (by decide +kernel) F.create_reversed ⟨_, _, F.mro_reversed⟩ F.made_reversed sub_ri_reversed (F.typeCall_reversed_1 _) (code_reversed_range hl h0 h1 ⟨rfl, rfl⟩) ?_
  rintro obj s₁ ⟨rfl, rfl⟩
  exact ⟨⟨_, Heap.get?_push_size _ rfl, rfl⟩, h⟩
end
def iRev (ta : TA) : TI := fun σ H R => ta σ H fun vs H1 => ∃ n : Int, vs = [.int n] ∧ 0 ≤ n ∧ n < 2 ^ 62 ∧ R (Itr3 (n - 1) (-1) n.toNat) H1
theorem pi_rev {X : Cx} {tg a : Expr} {ta : TA} {p p2 pos pos2 : Pos} (hg : Gl X "reversed") (hm : X.mg "reversed" = none) (hg2 : Gl X "range") (hm2 : X.mg "range" = none) (ha : PA X [a] ta) (hs : starEach [a] X.env = [(false, eval a X.env)] := by rfl)
    (hs2 : starEach [.Call (.Name "range" p2) [a] [] pos2] X.env = [(false, eval (.Call (.Name "range" p2) [a] [] pos2) X.env)] := by rfl) :
    PI X tg (.Call (.Name "reversed" p) [.Call (.Name "range" p2) [a] [] pos2] [] pos) (iRev ta) := by
  intro pins s σ H R I h
  refine Call_ (ld_blt I hg hm boot_reversed (PyProof.Rows.callWith_type1 ?_ hs2 rfl))
  rw [hs2]
  refine Calls.spliced_cons ?_
  refine Call_ (ld_blt I hg2 hm2 boot_range (PyProof.Rows.callWith_type1 (thn (ha pos2 pins s σ H _ I h) fun us s1 ⟨vs, H1, I1, r1, q1⟩ => ?_) hs rfl))
  obtain ⟨n, e, q1, q2, q⟩ := q1
  subst e
  cases r1 with
  | cons r rr =>
    cases rr
    obtain ⟨t, rfl⟩ := r
    refine call_range_1 ?_
    refine Calls.spliced_nil ?_
    refine call_reversed_range (n := n) (Heap.get?_push_size _ rfl) q1 q2 ?_
    have I2 : Inv X pins σ H1 { s1 with heap := (s1.heap.push (rngObj n s1.toks t (s1.toks + 1))).push (rngIt n), toks := s1.toks + 1 + 1 } := I1.kept fun b o e => Heap.get?_push_of_some _ (Heap.get?_push_of_some _ e)
    have hz : (s1.heap.push (rngObj n s1.toks t (s1.toks + 1))).objs.size = s1.heap.objs.size + 1 := size_push' _ _
    have hi : IsRangeIter ((s1.heap.push (rngObj n s1.toks t (s1.toks + 1))).push (rngIt n)) (s1.heap.push (rngObj n s1.toks t (s1.toks + 1))).objs.size (n - 1) n (-1) := Heap.get?_push_size _ rfl
    refine wpAny_pyIter_rangeiter hi ?_
    refine ⟨_, [_], _, _, H1, rfl, I2, turn_range3 _ (n - 1) (-1) n.toNat, ?_, fun b hb => ?_, q⟩
    · show IsRangeIter _ _ (n - 1 + ((0 : Nat) : Int) * -1) (((n.toNat : Nat) : Int) - ((0 : Nat) : Int)) (-1)
      have e1 : n - 1 + ((0 : Nat) : Int) * -1 = n - 1 := by simp
      have e2 : ((n.toNat : Nat) : Int) - ((0 : Nat) : Int) = n := by omega
      rw [e1, e2]
      exact hi
    · have e : b = (s1.heap.push (rngObj n s1.toks t (s1.toks + 1))).objs.size := by simpa using hb
      subst e
      have hf := I1.fpOk (b := (s1.heap.push (rngObj n s1.toks t (s1.toks + 1))).objs.size) (by rw [hz]; exact Nat.le_succ _) (I1.hok.fresh (by rw [hz]; exact Nat.le_succ _))
      exact hf
end L2

namespace GM
/-- t over b, in lowest terms, is N over M -/
structure Fr (M t b N : Int) : Prop where
  am : Amt t b
  e : t * M = N * b
end GM

namespace K44
open PySem PySem.Spec PyProof.Rows L2 GM TM
def top (i : Nat) : Stmt := PySem.Challenge.pw_phialhouse_k44_whole_none_narrower.main.body.getD i (.Pass ⟨0, 0, 0, 0⟩)
abbrev sNeedOf : Stmt := top 1
abbrev sNeeds : Stmt := top 2
abbrev sPaper : Stmt := top 3
abbrev sPb : Stmt := top 4
abbrev sPoc : Stmt := top 5
abbrev sWidth : Stmt := top 7
abbrev sCell : Stmt := top 9
abbrev sMixed : Stmt := top 10
abbrev sWhole : Stmt := top 11
abbrev sLowest : Stmt := top 12
abbrev sAdd : Stmt := top 13
abbrev sDigit : Stmt := top 17
abbrev sNames : Stmt := top 18
abbrev sWares : Stmt := top 19
abbrev sMuch : Stmt := top 20
abbrev sFreeC : Stmt := top 21
abbrev sCounts : Stmt := top 22
abbrev sTotal : Stmt := top 23
abbrev sFreeR : Stmt := top 24
abbrev sRoot : Stmt := top 25
abbrev sPaths : Stmt := top 26
abbrev sMay : Stmt := top 27
abbrev sChosen : Stmt := top 28
abbrev sSteps : Stmt := top 29
abbrev sHeight : Stmt := top 30
abbrev sLaw : Stmt := top 31
structure Txt (mg : Str → Option Value) : Prop where
  isi : mg "isinstance" = none
  int' : mg "int" = none
  bool' : mg "bool" = none
  tup' : mg "tuple" = none
  len : mg "len" = none
  range : mg "range" = none
  min' : mg "min" = none
  max' : mg "max" = none
  abs' : mg "abs" = none
  list' : mg "list" = none
  sorted' : mg "sorted" = none
  sum' : mg "sum" = none
  rev' : mg "reversed" = none
def spCell (K : PySem.W.Frag) : Sp := fun vs H Q _ => ∃ (a : Addr) (ns : List Int) (k : Int), vs = [.ref a, .int k] ∧ SqL K H a (ns.map V.int) ∧ 0 ≤ k ∧ ∀ c : Int, Q (.int c) H
structure Wr (x : Str) : Prop where
  l1 : 1 ≤ x.length
  l8 : x.length ≤ 8
  lt : ∀ c ∈ cps x, 97 ≤ c ∧ c ≤ 122
instance (x : Str) : Decidable (Wr x) := decidable_of_iff ((1 ≤ x.length ∧ x.length ≤ 8) ∧ ∀ c ∈ cps x, 97 ≤ c ∧ c ≤ 122) ⟨fun h => ⟨h.1.1, h.1.2, h.2⟩, fun h => ⟨⟨h.l1, h.l8⟩, h.lt⟩⟩
instance (x : Str) : Decidable (Wr x) := decidable_of_iff ((1 ≤ x.length ∧ x.length ≤ 8) ∧ ∀ c ∈ cps x, 97 ≤ c ∧ c ≤ 122) ⟨fun h => ⟨h.1.1, h.1.2, h.2⟩, fun h => ⟨⟨h.l1, h.l8⟩, h.lt⟩⟩
section
variable {P : Program} {w : World} {K : PySem.W.Frag} {mg : Str → Option Value} {base : Heap}
theorem gcd_turn {a0 b0 a b : Int} (e : G a b = G a0 b0) (hb : 0 ≤ b) (h : ¬ b = 0) : 0 ≤ a % b ∧ G b (a % b) = G a0 b0 := ⟨Int.emod_nonneg a h, by rw [G_step]; exact e⟩
theorem b6 {n : Nat} {x : Int} (h : Bt n x) (hn : n ≤ 1000000 := by decide) : Bt 1000000 x := h.mono hn
theorem bt_lt (n : Nat) {x c : Int} (h0 : 0 ≤ x) (h : x < c) (hc : c ≤ ((2 ^ n : Nat) : Int) := by decide +kernel) : Bt n x := by
  show x.natAbs < 2 ^ n
  omega
theorem emod_in (x : Int) {m : Int} (h : 0 < m) : 0 ≤ x % m ∧ x % m < m := ⟨Int.emod_nonneg x (by omega), Int.emod_lt_of_pos x h⟩
theorem bt_int : bootBuiltins "int" = some (.type "int") := by decide +kernel
theorem bt_bool : bootBuiltins "bool" = some (.type "bool") := by decide +kernel
theorem bt_tuple : bootBuiltins "tuple" = some (.type "tuple") := by decide +kernel
theorem bl {c : Int} (h0 : 0 ≤ c := by decide) (h : c < 18446744073709551616 := by decide) : Bt 1000000 c := b6 (bt_lt 64 h0 h)
theorem bk {c : Int} (h0 : 0 ≤ c := by decide) (h : c < 18446744073709551616 := by decide) : Bt 1000 c := (bt_lt 64 h0 h).mono (by decide)
theorem scCell : FnScope ["_law_script", "_law_k"] ["_law_script", "_law_k"] (defScope sCell) := ⟨rfl, rfl, rfl, by decide +kernel, rfl, by decide +kernel, by decide +kernel⟩
theorem ok_cell {f : Addr} {fd : FuncData} (F : Fun K "_law_cell_at" "_law_cell_at" sCell f fd) (T : Txt mg) : FnOk P w K mg base CX0 1 f fd ["_law_script", "_law_k"] (spCell K) := by
  refine F.ok scCell (fun vs H Q E h => ?_) (fun cdv A outer s H vs Q E hr h => ?_)
  · obtain ⟨_, _, _, rfl, _⟩ := h
    rfl
  · obtain ⟨a, ns, j, rfl, hS, h0, k⟩ := h
    refine ⟨_, (pss_cons (ps_if (pt_cmpR op_lt (pv 1) (pe_callB call_len_seq rfl T.len PySem.boot_len (pa_cons (pv 0) pa_nil)) (nomark _))
        (pss_one (ps_ret (pe_ix ix_list (pv 0) (pv 1) (fun _ _ => rfl))))
        pss_nil)
      (pss_one (ps_ret pe_int))), ?_⟩
    refine ⟨_, rfl, _, rfl, a, _, rfl, .inl hS, _, _, rfl, rfl, _, rfl, ite2 (fun hc => ?_) (fun _ => k _)⟩
    have hc' : j < ((ns.map V.int).length : Int) := of_decide_eq_true hc
    rw [List.length_map] at hc'
    obtain ⟨i, rfl⟩ := Int.eq_ofNat_of_zero_le h0
    obtain ⟨c, hc⟩ : ∃ c, ns[i]? = some c := ⟨_, List.getElem?_eq_getElem (show i < ns.length by omega)⟩
    exact ⟨_, rfl, _, rfl, a, _, (i : Int), .int c, rfl, rfl, hS, atI_nat (by rw [List.getElem?_map, hc]; rfl), k c⟩
theorem bt_abs : bootBuiltins "abs" = some (.builtin "abs") := by decide +kernel
theorem lenC (x : Str) : x.length = (cps x).length := by simp [Str.length, cps]
theorem lenA (x y : Str) : (x ++ y).length = x.length + y.length := by rw [lenC, cps_append', List.length_append, ← lenC, ← lenC]
theorem in_strs {x : Str} {ws : List Str} : inV (.str x) (ws.map V.str) = true ↔ x ∈ ws := by
  unfold inV
  rw [List.any_map, List.any_eq_true]
  constructor
  · rintro ⟨y, hy, e⟩
    have : y = x := by simpa [eqV] using e
    exact this ▸ hy
  · intro h
    exact ⟨x, h, by simp [eqV]⟩
theorem flat_strs (ws : List Str) : (ws.map V.str).all flatV = true := by
  rw [List.all_map, List.all_eq_true]
  intro x _
  rfl
theorem nodup_snoc {ws : List Str} {x : Str} (h : ws.Nodup) (n : x ∉ ws) : (ws ++ [x]).Nodup := by
  rw [List.nodup_append]
  refine ⟨h, by simp, fun y hy z hz e => ?_⟩
  rw [List.mem_singleton.mp hz] at e
  exact n (e ▸ hy)
theorem clOk_plain {X : Cx} {scope : Scope} (h : ∀ y ∈ scope.names, y.2 = .local ∨ y.2 = .globalImplicit) : ClOk X scope [] := by
  refine ⟨closureFor_none fun x hx z => ?_, fun x c e => by simp at e, fun x e => ?_⟩
  · rcases h x hx with q | q <;> rw [q] at z <;> cases z
  · exfalso
    have e' : ∃ k, (k = NameKind.cell ∨ k = NameKind.free) ∧ (relabel scope X.env).names.lookup x = some k := by
      rcases e with e | e
      · exact ⟨_, .inl rfl, e⟩
      · exact ⟨_, .inr rfl, e⟩
    obtain ⟨k, hk, e⟩ := e'
    have hm := PySem.mem_of_lookup e
    obtain ⟨y, hy, hy2⟩ := List.mem_map.mp hm
    have hl := h y hy
    obtain ⟨n, kk⟩ := y
    simp only at hl
    rcases hl with hl | hl <;> subst hl <;> simp at hy2 <;> rcases hk with rfl | rfl <;> exact absurd hy2.2 (by decide)
theorem list_eq {α : Type} {ys l : List α} (hl : ys.length = l.length) (h : ∀ (i : Nat) x y, l[i]? = some x → ys[i]? = some y → y = x) : ys = l := by
  refine List.ext_getElem? fun i => ?_
  by_cases hi : i < l.length
  · have e1 := List.getElem?_eq_getElem hi
    have e2 : ys[i]? = some (ys[i]'(by omega)) := List.getElem?_eq_getElem (by omega)
    rw [e1, e2, h i _ _ e1 e2]
  · rw [List.getElem?_eq_none (by omega), List.getElem?_eq_none (by omega)]
end
end K44

namespace L2
open PySem PySem.Spec PyProof.Rows
/-! ### texts joined, str of an int or a text -/
/-- the text that join tells -/
def jn (sep : Str) : List Str → Str
  | [x] => x
  | l => Builtin.Str.glued sep l
def rJoin (K : PySem.W.Frag) : V → List V → Hp → VK → Prop := fun z vs H Q => ∃ sep a ss, z = .str sep ∧ vs = [.ref a] ∧ SqL K H a (ss.map V.str) ∧ sep.length ≤ 10 ∧ ss.length ≤ 100 ∧ (∀ x ∈ ss, x.length ≤ 1000) ∧ Q (.str (jn sep ss)) H
/-- for over a text's signs -/
theorem for_str {x : Str} {g : TG} {tb : TS} {D : Ends} {σ : St} {H : Hp} (Pv : Nat → St → Hp → Prop) (h0 : Pv 0 σ H)
    (hs : ∀ i c σ H, x.cps[i]? = some c → Pv i σ H → g (.str ⟨#[c]⟩) σ H fun σ2 H2 => tb { D with nx := Pv (i + 1), ct := Pv (i + 1), bk := D.nx } σ2 H2) (hd : ∀ σ H, Pv x.cps.size σ H → D.nx σ H) :
    ∃ W : Nat → Nat → St → Hp → Prop, (∃ m, W 0 m σ H) ∧ ∀ i m σ H, W i m σ H →
      ((Its x).stop i H ∧ D.nx σ H) ∨ ((Its x).go i H ∧ ∃ N : St → Hp → Prop, (∀ σ' H', N σ' H' → ∃ m', m' < m ∧ W (i + 1) m' σ' H') ∧ ∀ v H', (Its x).yld i H v H' → g v σ H' fun σ2 H2 => tb { D with nx := N, ct := N, bk := D.nx } σ2 H2) := by
  refine ⟨fun i m σ H => m = x.cps.size - i ∧ i ≤ x.cps.size ∧ Pv i σ H, ⟨x.cps.size, by simp, Nat.zero_le _, h0⟩, ?_⟩
  rintro i m σ H ⟨rfl, hi, p⟩
  by_cases hlt : i < x.cps.size
  · refine .inr ⟨⟨x.cps[i], Array.getElem?_eq_getElem hlt⟩, Pv (i + 1), fun σ' H' p' => ⟨x.cps.size - (i + 1), by omega, rfl, hlt, p'⟩, fun v H' y => ?_⟩
    obtain ⟨e, c, hc, rfl⟩ := y
    subst e
    exact hs i c σ _ hc p
  · have e : i = x.cps.size := by omega
    subst e
    exact .inl ⟨Array.getElem?_eq_none (Nat.le_refl _), hd σ H p⟩
section
variable {X : Cx}
/-- the text of an int or a text -/
def tx : V → Str
  | .int n => toString n
  | .str x => x
  | _ => Str.empty
def TxOk (v : V) : Prop := (∃ n : Nat, v = .int n ∧ n < 10 ^ 60) ∨ ∃ x, v = .str x ∧ x.length ≤ 100
end
end L2

namespace K44
open PySem PySem.Spec PyProof.Rows L2 GM TM
/-- all but the object at a has stayed -/
def SmB (a : Addr) (H H' : Hp) : Prop := ∀ b o, b ≠ a → H b = some o → H' b = some o
theorem SmB.refl {a : Addr} {H : Hp} : SmB a H H := fun _ _ _ h => h
theorem SmB.trans {a : Addr} {H H1 H2 : Hp} (h : SmB a H H1) (k : SmB a H1 H2) : SmB a H H2 := fun b o n e => k b o n (h b o n e)
theorem SmB.of {a : Addr} {H H' : Hp} (h : Same H H') : SmB a H H' := fun b o _ e => h b o e
theorem SmB.upd {a : Addr} {H : Hp} {o : HO} : SmB a H (upd H a o) := fun b u n e => by rw [upd_ne n]; exact e
theorem SmB.same {a : Addr} {H H' : Hp} (h : SmB a H H') (n : H a = none) : Same H H' := fun b o e => h b o (fun z => by rw [z, n] at e; cases e) e
theorem SmB.own {a p : Addr} {H H' : Hp} {o : HO} (h : SmB a H H') (n : H p = none) : SmB a H (L2.upd H' p o) := fun b u nb e => by
  have ne : b ≠ p := fun z => by rw [z, n] at e; cases e
  rw [upd_ne ne]
  exact h b u nb e
theorem SmB.none {a p : Addr} {H H' : Hp} (h : SmB a H H') (n : H' p = none) (pa : p ≠ a) : H p = none := by
  cases e : H p with
  | none => rfl
  | some o =>
    have := h p o pa e
    rw [n] at this
    cases this
/-- what is left of a cell's digits -/
def Lf (H : Hp) (a : Addr) : Prop := ∃ n : Int, H a = some (.lst [.int n]) ∧ 0 ≤ n
theorem Lf.keep {H H' : Hp} {a : Addr} (h : Lf H a) (s : Same H H') : Lf H' a := by
  obtain ⟨n, e, r⟩ := h
  exact ⟨n, s _ _ e, r⟩
theorem Lf.there {H : Hp} {a b : Addr} (h : Lf H a) (n : H b = none) : b ≠ a := fun z => by
  obtain ⟨_, e, _⟩ := h
  rw [← z, n] at e
  cases e
theorem Lf.own {H : Hp} {a p : Addr} {o : HO} (h : Lf H a) (n : p ≠ a) : Lf (upd H p o) a := by
  obtain ⟨m, e, r⟩ := h
  exact ⟨m, by rw [upd_ne (Ne.symm n)]; exact e, r⟩
def spMixed : Sp := fun vs H Q _ => ∃ c k : Int, vs = [.int c, .int k] ∧ 0 ≤ k ∧ k ≤ 1000 ∧ ∀ n : Int, 0 ≤ n → n < 2147483647 → Q (.int n) H
def spLowest : Sp := fun vs H Q _ => ∃ t b : Int, vs = [.int t, .int b] ∧ 0 ≤ t ∧ 1 ≤ b ∧ Bt 9000 b ∧ ∀ p H', Same H H' → H p = none → H' p = some (.tup [.int (t / G t b), .int (b / G t b)]) → Q (.ref p) H'
def spDigit : Sp := fun vs H Q _ => ∃ (a : Addr) (m : Int), vs = [.ref a, .int m] ∧ Lf H a ∧ 1 ≤ m ∧ Bt 9000 m ∧ ∀ (d : Int) H', 0 ≤ d → d < m → SmB a H H' → Lf H' a → Q (.int d) H'
def spNames : Sp := fun vs H Q _ => ∃ a : Addr, vs = [.ref a] ∧ Lf H a ∧ ∀ (ws : List Str) p H', ws.length = 6 → ws.Nodup → (∀ x ∈ ws, Wr x) → SmB a H H' → H p = none → p ≠ a → H' p = some (.lst (ws.map V.str)) → Q (.ref p) H'
/-- a room: what is more than nought, in lowest terms -/
structure Rm (t b : Int) : Prop where
  t1 : 1 ≤ t
  b1 : 1 ≤ b
  g : G t b = 1
  st : Bt 63 t
  sb : Bt 63 b
def spMuch : Sp := fun vs H Q _ => ∃ n : Int, vs = [.int n] ∧ 0 ≤ n ∧ n < 2147483647 ∧ ∀ t b p H', Rm t b → Same H H' → H p = none → H' p = some (.tup [.int t, .int b]) → Q (.ref p) H'
theorem low_rm {t b : Int} (h0 : 1 ≤ t) (h1 : 1 ≤ b) (ht : Bt 63 t) (hb : Bt 63 b) : Rm (t / G t b) (b / G t b) := by
  have a := low_amt (t := t) (b := b) (by omega) h1
  have g := G_pos (a := t) (b := b) (by omega)
  have l := Int.le_of_dvd (by omega) (G_dvd_l t b)
  refine ⟨(Int.le_ediv_iff_mul_le g).mpr (by omega), (Int.le_ediv_iff_mul_le g).mpr (by have := G_le_r (a := t) (b := b) (by omega); omega), a.3, ht.le a.1 (Int.ediv_le_self _ (by omega)), hb.le (by have := a.2; omega) (Int.ediv_le_self _ (by omega))⟩
theorem low_small {t b : Int} (h1 : 1 ≤ b) (hs : Bt 9000 b) : 0 < G t b ∧ Bt 9000 (G t b) := by
  have p := G_pos (a := t) (b := b) (by omega)
  exact ⟨p, hs.le (by omega) (G_le_r (by omega))⟩
theorem b9 {c : Int} (h0 : 0 ≤ c := by decide) (h : c < 18446744073709551616 := by decide) : Bt 9000 c := (bt_lt 64 h0 h).mono (by decide)
theorem e18 : (10 : Int) ^ Int.toNat 18 = 1000000000000000000 := by decide +kernel
section
variable {P : Program} {w : World} {K : PySem.W.Frag} {mg : Str → Option Value} {base : Heap}
theorem scMixed : FnScope ["_law_cell", "_law_k"] ["_law_cell", "_law_k"] (defScope sMixed) := ⟨rfl, rfl, rfl, by decide +kernel, rfl, by decide +kernel, by decide +kernel⟩
theorem ok_mixed {f : Addr} {fd : FuncData} (F : Fun K "_law_mixed" "_law_mixed" sMixed f fd) : FnOk P w K mg base CX0 1 f fd ["_law_cell", "_law_k"] spMixed := by
  refine F.ok scMixed (fun vs H Q E h => ?_) (fun cdv A outer s H vs Q E hr h => ?_)
  · obtain ⟨_, _, rfl, _⟩ := h
    rfl
  · obtain ⟨c, k, rfl, k0, k1, q⟩ := h
    refine ⟨_, pss_one (ps_ret (pe_op op_mod (pe_op op_mulB (pe_op op_add (pe_op op_add (pe_op op_mod (pv 0) pe_int) (pe_op op_mulB (pv 1) (pv 1))) pe_int) pe_int) pe_int)), ?_⟩
    have c1 := emod_in c (m := 1000003) (by decide)
    have bk1 : Bt 32 k := bt_lt 32 (c := 1001) k0 (by omega)
    have b3 : Bt 66 (c % 1000003 + k * k + 1) := ((bt_lt 64 (c := 1000003) c1.1 c1.2).add (bk1.mul bk1)).add (bt_lt 65 (x := 1) (c := 2) (by decide) (by decide))
    refine ⟨_, rfl, _, _, rfl, rfl, (by show (0 : Int) < 1000003; decide), _, rfl, _, rfl, _, _, rfl, rfl, ⟨b6 bk1, b6 bk1⟩, _, _, rfl, rfl, _, _, rfl, rfl, _, _, rfl, rfl, ⟨b6 b3, bl⟩, _, _, rfl, rfl, (by show (0 : Int) < 2147483647; decide), ?_⟩
    have e := emod_in ((c % 1000003 + k * k + 1) * 48271) (m := 2147483647) (by decide)
    exact q _ e.1 e.2
theorem scLowest : FnScope ["_law_top", "_law_bottom", "_law_one", "_law_other"] ["_law_top", "_law_bottom"] (defScope sLowest) := ⟨rfl, rfl, rfl, by decide +kernel, rfl, by decide +kernel, by decide +kernel⟩
theorem ok_lowest {f : Addr} {fd : FuncData} (F : Fun K "_law_lowest" "_law_lowest" sLowest f fd) : FnOk P w K mg base CX0 1 f fd ["_law_top", "_law_bottom"] spLowest := by
  refine F.ok scLowest (fun vs H Q E h => ?_) (fun cdv A outer s H vs Q E hr h => ?_)
  · obtain ⟨a, b, rfl, _⟩ := h
    rfl
  · obtain ⟨a, b, rfl, ha, hb, bb, k⟩ := h
    refine ⟨_, (pss_cons (ps_set (i := 2) scLowest.nd rfl (Or.inl rfl) (pv 0))
      (pss_cons (ps_set (i := 3) scLowest.nd rfl (Or.inl rfl) (pv 1))
      (pss_cons (ps_while PassesOwn.never (pt_cmpR op_gt (pv 3) pe_int (nomark _))
      (pss_one (ps_par (i := 2) (j := 3) rfl scLowest.nd rfl rfl (by decide) rfl rfl (pa_cons (pv 3) (pa_cons (pe_op op_mod (pv 2) (pv 3)) pa_nil)) rfl)))
      (pss_one (ps_ret (pe_tup (pa_cons (pe_op op_fdivB (pv 0) (pv 2)) (pa_cons (pe_op op_fdivB (pv 1) (pv 2)) pa_nil)))))))), ?_⟩
    refine ⟨_, rfl, _, rfl, ?_⟩
    refine while_by (fun σ H' => H' = H ∧ ∃ (x y : Int), σ = [some (.int a), some (.int b), some (.int x), some (.int y)] ∧ 0 ≤ x ∧ 0 ≤ y ∧ G x y = G a b) (fun σ _ => match σ with | [_, _, _, some (.int y)] => y.toNat | _ => 0) ⟨rfl, a, b, rfl, ha, by omega, rfl⟩ ?_ ?_
    · rintro σ H' ⟨rfl, x, y, rfl, hx, hy, e⟩
      refine ⟨_, rfl, _, _, rfl, rfl, _, rfl, ?_⟩
      refine ite2 (fun hc => ?_) (fun hc => ?_)
      · have hy0 : 0 < y := of_decide_eq_true hc
        have t := gcd_turn e hy (by omega)
        refine ⟨_, rfl, _, rfl, _, rfl, _, _, rfl, rfl, (by show 0 < y; omega), _, _, rfl, ⟨rfl, y, x % y, rfl, hy, t.1, t.2⟩, ?_⟩
        have := Int.emod_lt_of_pos x (show 0 < y by omega)
        have := t.1
        show (x % y).toNat < y.toNat
        omega
      · have hy0 : y = 0 := by
          have : ¬ 0 < y := fun z => hc (decide_eq_true z)
          omega
        subst hy0
        rw [G_zero hx] at e
        subst e
        have g := low_small (t := a) hb bb
        refine ⟨_, rfl, _, rfl, _, _, rfl, rfl, g, _, rfl, _, rfl, _, _, rfl, rfl, g, (by show 2 ≤ sizeLine; decide), fun p hp => ?_⟩
        exact k p _ (Same.upd hp) hp upd_same
    · rintro σ H' Q1 Q2 hq ⟨v, e, i, j, e1, e2, z, ez, q⟩
      exact ⟨v, e, i, j, e1, e2, z, ez, hq _ _ q⟩
theorem scDigit : FnScope ["_law_left", "_law_many", "_law_found"] ["_law_left", "_law_many"] (defScope sDigit) := ⟨rfl, rfl, rfl, by decide +kernel, rfl, by decide +kernel, by decide +kernel⟩
theorem ok_digit {f : Addr} {fd : FuncData} (F : Fun K "_law_digit" "_law_digit" sDigit f fd) : FnOk P w K mg base CX0 1 f fd ["_law_left", "_law_many"] spDigit := by
  refine F.ok scDigit (fun vs H Q E h => ?_) (fun cdv A outer s H vs Q E hr h => ?_)
  · obtain ⟨_, _, rfl, _⟩ := h
    rfl
  · obtain ⟨a, m, rfl, ⟨n, ha, n0⟩, m1, bm, k⟩ := h
    refine ⟨_, (pss_cons (ps_set (i := 2) scDigit.nd rfl (Or.inl rfl) (pe_op op_mod (pe_ix ix_list (pv 0) pe_int (fun _ _ => rfl)) (pv 1)))
      (pss_cons (ps_asg (pe_op op_fdivB (pe_ix ix_list (pv 0) pe_int (fun _ _ => rfl)) (pv 1)) (pg_sub (pv 0) pe_int set_list))
      (pss_one (ps_ret (pv 2))))), ?_⟩
    refine ⟨_, rfl, a, _, 0, .int n, rfl, rfl, SqL.of ha, atI_nat (j := 0) rfl, _, rfl, _, _, rfl, rfl, (by show 0 < m; omega), ?_⟩
    refine ⟨_, rfl, a, _, 0, .int n, rfl, rfl, SqL.of ha, atI_nat (j := 0) rfl, _, rfl, _, _, rfl, rfl, ⟨by omega, bm⟩, _, rfl, a, _, 0, 0, rfl, rfl, ha, rfl, ?_⟩
    have e := emod_in n (show (0 : Int) < m by omega)
    exact ⟨_, rfl, k _ _ e.1 e.2 SmB.upd ⟨_, upd_same, Int.ediv_nonneg n0 (by omega)⟩⟩
theorem scMuch : FnScope ["_law_number"] ["_law_number"] (defScope sMuch) := ⟨rfl, rfl, rfl, by decide +kernel, rfl, by decide +kernel, by decide +kernel⟩
theorem ok_much {f : Addr} {fd : FuncData} (F : Fun K "_law_much" "_law_much" sMuch f fd) (cL : Cal P w K mg base CX0 1 "_law_lowest" ["_law_top", "_law_bottom"] spLowest) : FnOk P w K mg base CX0 2 f fd ["_law_number"] spMuch := by
  refine F.ok scMuch (fun vs H Q E h => ?_) (fun cdv A outer s H vs Q E hr h => ?_)
  · obtain ⟨_, rfl, _⟩ := h
    rfl
  · obtain ⟨n, rfl, n0, nl, k⟩ := h
    refine ⟨_, (pss_cons (ps_if (pt_cmpR op_eq (pe_op op_mod (pv 0) pe_int) pe_int (nomark _))
        (pss_one (ps_ret (pe_cal cL hr rfl pass0 (pa_cons (pe_op op_add pe_int (pe_op op_mod (pe_op op_mulB (pe_op op_fdivB (pv 0) pe_int) pe_int) (pe_op op_powB pe_int pe_int))) (pa_cons (pe_op op_add pe_int (pe_op op_mod (pe_op op_fdivB (pv 0) pe_int) pe_int)) pa_nil)))))
        pss_nil)
      (pss_one (ps_ret (pe_cal cL hr rfl pass0 (pa_cons (pe_op op_add pe_int (pe_op op_mod (pe_op op_fdivB (pv 0) pe_int) pe_int)) (pa_cons (pe_op op_add pe_int (pe_op op_mod (pe_op op_fdivB (pv 0) pe_int) pe_int)) pa_nil)))))), ?_⟩
    have q0 : 0 ≤ n / 4 := Int.ediv_nonneg n0 (by decide)
    have ql : n / 4 < 2147483647 := Int.lt_of_le_of_lt (Int.ediv_le_self _ n0) nl
    have bq : Bt 64 (n / 4) := bt_lt 64 q0 (Int.lt_trans ql (by decide : (2147483647 : Int) < 2147483648))
    have e1 := emod_in (n / 4) (m := 12) (by decide)
    have e2 := emod_in (n / 48) (m := 12) (by decide)
    refine ⟨_, rfl, _, _, rfl, rfl, (by show (0 : Int) < 4; decide), rfl, _, rfl, ite2 (fun _ => ?_) (fun _ => ?_)⟩
    · refine ⟨_, rfl, _, _, rfl, rfl, ⟨by decide, b9⟩, _, _, rfl, rfl, ⟨b6 bq, bl⟩, _, _, rfl, rfl, ⟨by decide, by decide, bk⟩, _, _, rfl, rfl, ?_, _, _, rfl, rfl, _, rfl, _, _, rfl, rfl, ⟨by decide, b9⟩, _, _, rfl, rfl, (by show (0 : Int) < 12; decide), _, _, rfl, rfl, ?_⟩
      · rw [e18]
        show (0 : Int) < 1000000000000000000
        decide
      · rw [e18]
        have e3 := emod_in (n / 4 * 69621) (m := 1000000000000000000) (by decide)
        exact ⟨_, _, rfl, by omega, by omega, b9 (by omega) (by omega), fun p H' sm np hp => k _ _ p H' (low_rm (by omega) (by omega) (bt_lt 63 (c := 2000000000000000000) (by omega) (by omega)) (bt_lt 63 (c := 2000000000000000000) (by omega) (by omega))) sm np hp⟩
    · refine ⟨_, rfl, _, _, rfl, rfl, ⟨by decide, b9⟩, _, _, rfl, rfl, (by show (0 : Int) < 12; decide), _, _, rfl, rfl, _, rfl, _, _, rfl, rfl, ⟨by decide, b9⟩, _, _, rfl, rfl, (by show (0 : Int) < 12; decide), _, _, rfl, rfl, ?_⟩
      exact ⟨_, _, rfl, by omega, by omega, b9 (by omega) (by omega), fun p H' sm np hp => k _ _ p H' (low_rm (by omega) (by omega) (bt_lt 63 (c := 2000000000000000000) (by omega) (by omega)) (bt_lt 63 (c := 2000000000000000000) (by omega) (by omega))) sm np hp⟩
end
end K44

namespace K44
open PySem PySem.Spec PyProof.Rows L2 GM TM
def one (c : Nat) : Str := ⟨#[c]⟩
theorem cps_one (c : Nat) : cps (one c) = [c] := rfl
theorem wr_one {c : Nat} (h : 97 ≤ c ∧ c ≤ 122) : Wr (one c) := ⟨(by show 1 ≤ 1; decide), (by show 1 ≤ 8; decide), fun x hx => by
  rw [cps_one] at hx
  rw [List.mem_singleton.mp hx]
  exact h⟩
theorem one_inj {c d : Nat} (e : one c = one d) : c = d := by
  have := congrArg cps e
  rw [cps_one, cps_one] at this
  exact (List.cons.inj this).1
def spWares : Sp := fun vs H Q _ => ∃ c : Int, vs = [.int c] ∧ ∀ (ws : List Str) p H', ws.length = 6 → ws.Nodup → (∀ x ∈ ws, Wr x) → Same H H' → H p = none → H' p = some (.lst (ws.map V.str)) → Q (.ref p) H'
section
variable {P : Program} {w : World} {K : PySem.W.Frag} {mg : Str → Option Value} {base : Heap}
theorem scNames : FnScope ["_law_left", "_law_letters", "_law_found", "_law_k", "_law_word", "_law_j", "_law_tail"] ["_law_left"] (defScope sNames) := ⟨rfl, rfl, rfl, by decide +kernel, rfl, by decide +kernel, by decide +kernel⟩
theorem ok_names {f : Addr} {fd : FuncData} (F : Fun K "_law_names" "_law_names" sNames f fd) (T : Txt mg) (cD : Cal P w K mg base CX0 1 "_law_digit" ["_law_left", "_law_many"] spDigit) : FnOk P w K mg base CX0 2 f fd ["_law_left"] spNames := by
  refine F.ok scNames (fun vs H Q E h => ?_) (fun cdv A outer s H vs Q E hr h => ?_)
  · obtain ⟨_, rfl, _⟩ := h
    rfl
  · obtain ⟨a, rfl, lf, k⟩ := h
    refine ⟨_, (pss_cons (ps_set (i := 1) scNames.nd rfl (Or.inl rfl) pe_str)
      (pss_cons (ps_set (i := 2) scNames.nd rfl (Or.inl rfl) (pe_lst pa_nil))
      (pss_cons (ps_for PassesOwn.never rfl (pi_range1 rfl T.range (pa_cons pe_int pa_nil)) (pg_name (i := 3) scNames.nd rfl (Or.inl rfl))
        (pss_cons (ps_set (i := 4) scNames.nd rfl (Or.inl rfl) pe_str)
        (pss_cons (ps_for PassesOwn.never rfl (pi_range1 rfl T.range (pa_cons (pe_op op_add pe_int (pe_cal cD hr rfl pass0 (pa_cons (pv 0) (pa_cons pe_int pa_nil)))) pa_nil)) (pg_name (i := 5) scNames.nd rfl (Or.inl rfl))
          (pss_one (ps_set (i := 4) scNames.nd rfl (Or.inl rfl) (pe_op op_add_str (pv 4) (pe_ix ix_str (pv 1) (pe_cal cD hr rfl pass0 (pa_cons (pv 0) (pa_cons pe_int pa_nil))) (fun _ _ => rfl))))))
        (pss_cons (ps_for PassesOwn.never rfl (pi_str (pv 1)) (pg_name (i := 6) scNames.nd rfl (Or.inl rfl))
          (pss_one (ps_if (pt_cmpR op_in_seq (pv 4) (pv 2) rfl) (pss_one (ps_set (i := 4) scNames.nd rfl (Or.inl rfl) (pv 6))) pss_nil)))
        (pss_one (ps_expr (pe_bm PySem.F.plainAttrs_list PySem.F.slot_list_append PySem.F.type_list_append mt_append (pv 2) (pa_cons (pv 4) pa_nil))))))))
      (pss_one (ps_ret (pv 2)))))), ?_⟩
    have zL : LET.length ≤ sizeLine := by decide +kernel
    refine ⟨(by show 0 ≤ sizeLine; decide), fun p hp => ?_⟩
    have pa : p ≠ a := lf.there hp
    refine ⟨6, rfl, by decide, by decide, ?_⟩
    refine for_range (fun i σ H' => ∃ (ws : List Str) (v3 v4 v5 v6 : Option V), σ = [some (.ref a), some (.str LET), some (.ref p), v3, v4, v5, v6] ∧ ws.length = i ∧ ws.Nodup ∧ (∀ x ∈ ws, Wr x) ∧ SmB a H H' ∧ Lf H' a ∧ H' p = some (.lst (ws.map V.str)))
      ⟨[], none, none, none, none, rfl, rfl, List.nodup_nil, (fun _ h => nomatch h), SmB.refl.own hp, lf.own pa, upd_same⟩ ?_ ?_
    · rintro i σ H2 hi ⟨ws, v3, v4, v5, v6, rfl, wl, nd, wr, s2, lf2, hp2⟩
      have hi6 : i < 6 := hi
      refine ⟨_, rfl, a, 8, rfl, lf2, by decide, b9, fun e H3 e0 el s3 lf3 => ⟨_, _, rfl, rfl, 1 + e, rfl, by omega, by omega, ?_⟩⟩
      refine for_range (fun j σ H' => ∃ (x : Str) (v5 : Option V), σ = [some (.ref a), some (.str LET), some (.ref p), some (.int (0 + i)), some (.str x), v5, v6] ∧ x.length = j ∧ (∀ c ∈ cps x, 97 ≤ c ∧ c ≤ 122) ∧ SmB a H H' ∧ Lf H' a ∧ H' p = some (.lst (ws.map V.str)))
        ⟨"", v5, rfl, rfl, (fun _ h => nomatch h), s2.trans s3, lf3, s3 _ _ pa hp2⟩ ?_ ?_
      · rintro j σ H4 hj ⟨x, u5, rfl, xl, xc, s4, lf4, hp4⟩
        refine ⟨_, rfl, _, rfl, _, rfl, a, 26, rfl, lf4, by decide, b9, fun g H5 g0 gl s5 lf5 => ?_⟩
        obtain ⟨gn, rfl⟩ := Int.eq_ofNat_of_zero_le g0
        have lx : x.length ≤ 8 := by omega
        refine ⟨LET, (gn : Int), 97 + gn, rfl, rfl, zL, atI_nat (at_let (by omega)), _, _, rfl, rfl, sz1000 (by show x.length + 1 ≤ 1000; omega), ?_⟩
        refine ⟨_, _, rfl, ?_, fun c hc => ?_, s4.trans s5, lf5, s5 _ _ pa hp4⟩
        · rw [lenA, xl]
          rfl
        · rw [cps_append'] at hc
          rcases List.mem_append.mp hc with h | h
          · exact xc c h
          · have : c = 97 + gn := by simpa [cps] using h
            omega
      · rintro σ H4 ⟨x, u5, rfl, xl, xc, s4, lf4, hp4⟩
        have wx : Wr x := ⟨by omega, by omega, xc⟩
        refine ⟨_, rfl, LET, rfl, ?_⟩
        refine for_str (fun j σ H' => ∃ (y : Str) (v6 : Option V), σ = [some (.ref a), some (.str LET), some (.ref p), some (.int (0 + i)), some (.str y), u5, v6] ∧ H' = H4 ∧ Wr y ∧ (y ∉ ws ∨ j = 0 ∨ ∃ q, j = q + 1 ∧ y = one (97 + q) ∧ ∀ r, r < q → one (97 + r) ∈ ws)) ⟨x, v6, rfl, rfl, wx, .inr (.inl rfl)⟩ ?_ ?_
        · rintro j c σ H5 hc ⟨y, v6', rfl, rfl, wy, inv⟩
          have hj : j < 26 := by
            have := (Array.getElem?_eq_some_iff.mp hc).1
            exact this
          have ec : c = 97 + j := by
            have h1 := at_let hj
            have h2 : (cps LET)[j]? = some c := by simpa [cps] using hc
            rw [h1] at h2
            exact (Option.some.inj h2).symm
          subst ec
          refine ⟨_, rfl, _, rfl, p, _, rfl, .inl (SqL.of hp4), rfl, flat_strs ws, _, rfl, ite2 (fun hin => ?_) (fun hno => ?_)⟩
          · have hin' : y ∈ ws := in_strs.mp hin
            refine ⟨_, rfl, one (97 + j), _, rfl, rfl, wr_one (by omega), .inr (.inr ⟨j, rfl, rfl, fun r hr => ?_⟩)⟩
            rcases inv with h | h | ⟨q, e, ey, h⟩
            · exact absurd hin' h
            · omega
            · by_cases z : r = q
              · rw [z, ← ey]
                exact hin'
              · exact h r (by omega)
          · exact ⟨y, _, rfl, rfl, wy, .inl fun z => hno (in_strs.mpr z)⟩
        · rintro σ H5 ⟨y, v6', rfl, rfl, wy, inv⟩
          have ny : y ∉ ws := by
            rcases inv with h | h | ⟨q, e, ey, h⟩
            · exact h
            · exact absurd h (by decide)
            · exfalso
              have q25 : q = 25 := by
                have : LET.cps.size = 26 := by decide +kernel
                omega
              have := pigeon (fun r => one (97 + r)) 25 ws (fun r hr => h r (by omega)) (fun r1 r2 _ _ e => by have := one_inj e; omega)
              omega
          refine ⟨_, rfl, .inl ⟨rfl, _, SqL.of hp4⟩, _, rfl, p, _, _, rfl, rfl, hp4, small1000 (by rw [List.length_map]; omega), ?_⟩
          refine ⟨ws ++ [y], _, _, _, _, rfl, by rw [List.length_append, wl]; rfl, nodup_snoc nd ny, fun z hz => ?_, s4.own hp, lf4.own pa, by rw [List.map_append]; exact upd_same⟩
          rcases List.mem_append.mp hz with h | h
          · exact wr z h
          · rw [List.mem_singleton.mp h]
            exact wy
    · rintro σ H2 ⟨ws, v3, v4, v5, v6, rfl, wl, nd, wr, s2, lf2, hp2⟩
      exact ⟨_, rfl, k ws p H2 wl nd wr s2 hp pa hp2⟩
theorem ndW1 : (["_law_tail", "_law_word"] : List Str).Nodup := by decide +kernel
theorem ndW2 : (["_law_k", "_law_word", "_law_letters", "_law_number"] : List Str).Nodup := by decide +kernel
abbrev tails : List Str := ["", "a", "aa", "ab", "b", "ba"]
theorem cps_inj {x y : Str} (h : cps x = cps y) : x = y := by
  obtain ⟨⟨x⟩⟩ := x
  obtain ⟨⟨y⟩⟩ := y
  simp [cps] at h
  rw [h]
theorem app_inj {x y z : Str} (h : x ++ y = x ++ z) : y = z := by
  have := congrArg cps h
  rw [cps_append', cps_append'] at this
  exact cps_inj (List.append_cancel_left this)
theorem wr_app {x y : Str} (l1 : 1 ≤ x.length) (l : x.length + y.length ≤ 8) (hx : ∀ c ∈ cps x, 97 ≤ c ∧ c ≤ 122) (hy : ∀ c ∈ cps y, 97 ≤ c ∧ c ≤ 122) : Wr (x ++ y) := by
  refine ⟨by rw [lenA]; omega, by rw [lenA]; exact l, fun c hc => ?_⟩
  rw [cps_append'] at hc
  rcases List.mem_append.mp hc with h | h
  · exact hx c h
  · exact hy c h
theorem tails_ok : ∀ t ∈ tails, t.length ≤ 2 ∧ ∀ c ∈ cps t, 97 ≤ c ∧ c ≤ 122 := by decide +kernel
theorem tails_nd : tails.Nodup := by decide +kernel
theorem strs_eq {ys : List V} {ws : List Str} (hl : ys.length = ws.length) (h : ∀ (i : Nat) y b, ys[i]? = some y → ws[i]? = some b → y = .str b) : ys = ws.map V.str := by
  refine list_eq (by rw [List.length_map]; exact hl) fun i x y hx hy => ?_
  rw [List.getElem?_map] at hx
  cases e : ws[i]? with
  | none => rw [e] at hx; cases hx
  | some b =>
    rw [e] at hx
    cases hx
    exact h i y b hy e
theorem nodup_map {α β : Type} {f : α → β} : ∀ {l : List α}, (∀ x ∈ l, ∀ y ∈ l, f x = f y → x = y) → l.Nodup → (l.map f).Nodup
  | [], _, _ => List.nodup_nil
  | x :: r, h, n => by
    rw [List.nodup_cons] at n
    rw [List.map_cons, List.nodup_cons]
    refine ⟨fun z => ?_, nodup_map (fun a ha b hb => h a (List.mem_cons_of_mem _ ha) b (List.mem_cons_of_mem _ hb)) n.2⟩
    obtain ⟨y, hy, e⟩ := List.mem_map.mp z
    have := h y (List.mem_cons_of_mem _ hy) x (List.mem_cons_self ..) e
    rw [this] at hy
    exact n.1 hy
theorem scWares : FnScope ["_law_cell", "_law_letters", "_law_number", "_law_word", "_law_k"] ["_law_cell"] (defScope sWares) := ⟨rfl, rfl, rfl, by decide +kernel, rfl, by decide +kernel, by decide +kernel⟩
theorem ok_wares {f : Addr} {fd : FuncData} (F : Fun K "_law_wares" "_law_wares" sWares f fd) (T : Txt mg) (cN : Cal P w K mg base CX0 2 "_law_names" ["_law_left"] spNames) (cM : Cal P w K mg base CX0 2 "_law_mixed" ["_law_cell", "_law_k"] spMixed) : FnOk P w K mg base CX0 3 f fd ["_law_cell"] spWares := by
  refine F.ok scWares (fun vs H Q E h => ?_) (fun cdv A outer s H vs Q E hr h => ?_)
  · obtain ⟨_, rfl, _⟩ := h
    rfl
  · obtain ⟨c, rfl, k⟩ := h
    refine ⟨_, (pss_cons (ps_set (i := 1) scWares.nd rfl (Or.inr rfl) pe_str)
      (pss_cons (ps_if (pt_cmpR op_eq (pe_op op_mod (pv 0) pe_int) pe_int (nomark _))
        (pss_one (ps_ret (pe_cal cN hr rfl pass0 (pa_cons (pe_lst (pa_cons (pe_op op_fdivB (pe_callB call_abs rfl T.abs' bt_abs (pa_cons (pv 0) pa_nil)) pe_int) pa_nil)) pa_nil))))
        pss_nil)
      (pss_cons (ps_set (i := 2) scWares.nd rfl (Or.inr rfl) (pe_cal cM hr rfl pass0 (pa_cons (pv 0) (pa_cons pe_int pa_nil))))
      (pss_cons (ps_set (i := 3) scWares.nd rfl (Or.inr rfl) pe_str)
      (pss_cons (ps_for PassesOwn.never rfl (pi_range1 rfl T.range (pa_cons (pe_op op_add pe_int (pe_op op_mod (pv 2) pe_int)) pa_nil)) (pg_name (i := 4) scWares.nd rfl (Or.inl rfl))
        (pss_one (ps_set (i := 3) scWares.nd rfl (Or.inr rfl) (pe_op op_add_str (pv 3) (pe_ix ix_str (pv 1) (pe_op op_mod (pe_op op_fdivB (pe_cal cM hr rfl pass0 (pa_cons (pv 0) (pa_cons (pe_op op_add (pv 4) pe_int) pa_nil))) pe_int) pe_int) (fun _ _ => rfl))))))
      (pss_cons (ps_if (pt_cmpR op_eq (pe_op op_mod (pe_op op_fdivB (pv 2) pe_int) pe_int) pe_int (nomark _))
        (pss_one (ps_ret (pe_compC (N' := ["_law_tail", "_law_word"]) (fun σ => [none, some 3].map fun t => t.bind fun j => (σ[j]?).join) rfl rfl (by decide +kernel) (by decide +kernel)
          (hk_of (sc := defScope sWares) rfl (by decide +kernel)) (fun _ _ _ => blkN_by (sc := defScope sWares) (N := ["_law_cell", "_law_letters", "_law_number", "_law_word", "_law_k"]) [none, some 3] rfl rfl rfl rfl (by decide +kernel))
          (pi_tup (pe_tup (pa_cons pe_str (pa_cons pe_str (pa_cons pe_str (pa_cons pe_str (pa_cons pe_str (pa_cons pe_str pa_nil)))))))) (fun _ _ _ _ _ _ => pg_name (i := 0) ndW1 rfl (Or.inl rfl)) (fun _ _ _ _ _ _ => pifs_nil)
          (fun _ _ _ _ _ _ => pe_op op_add_str (pv 1) (pv 0)))))
        pss_nil)
      (pss_one (ps_ret (pe_compC (N' := ["_law_k", "_law_word", "_law_letters", "_law_number"]) (fun σ => [none, some 3, some 1, some 2].map fun t => t.bind fun j => (σ[j]?).join) rfl rfl (by decide +kernel) (by decide +kernel)
          (hk_of (sc := defScope sWares) rfl (by decide +kernel)) (fun _ _ _ => blkN_by (sc := defScope sWares) (N := ["_law_cell", "_law_letters", "_law_number", "_law_word", "_law_k"]) [none, some 3, some 1, some 2] rfl rfl rfl rfl (by decide +kernel))
          (pi_range1 rfl T.range (pa_cons pe_int pa_nil)) (fun _ _ _ _ _ _ => pg_name (i := 0) ndW2 rfl (Or.inl rfl)) (fun _ _ _ _ _ _ => pifs_nil)
          (fun _ _ _ _ _ _ => pe_op op_add_str (pv 1) (pe_ix ix_str (pv 2) (pe_op op_mod (pe_op op_add (pe_op op_fdivB (pv 3) pe_int) (pe_op op_mulB pe_int (pv 0))) pe_int) (fun _ _ => rfl)))))))))))), ?_⟩
    have zL : LET.length ≤ sizeLine := by decide +kernel
    refine ⟨_, rfl, _, _, rfl, rfl, (by show (0 : Int) < 2; decide), rfl, _, rfl, ite2 (fun _ => ?_) (fun _ => ?_)⟩
    · refine ⟨_, rfl, c, rfl, ?_⟩
      have ha : 0 ≤ (if c < 0 then -c else c) := by split <;> omega
      generalize (if c < 0 then -c else c) = n at *
      refine ⟨_, _, rfl, rfl, ⟨by decide, b9⟩, (by show 1 ≤ sizeLine; decide), fun z hz => ⟨z, rfl, ⟨_, upd_same, Int.ediv_nonneg ha (by decide)⟩, fun ws p H' wl nd wr sm hp pz hp' => ?_⟩⟩
      have hpn : H p = none := by
        cases e : H p with
        | none => rfl
        | some o =>
          have := Same.upd (o := .lst [.int (n / 2)]) hz _ _ e
          rw [hp] at this
          cases this
      exact k ws p H' wl nd wr (fun b o e => sm b o (fun q => by rw [q, hz] at e; cases e) (Same.upd hz _ _ e)) hpn hp'
    refine ⟨_, rfl, c, 0, rfl, by decide, by decide, fun n n0 nl => ?_⟩
    have e5 := emod_in n (m := 5) (by decide)
    refine ⟨_, rfl, _, _, rfl, rfl, (by show (0 : Int) < 5; decide), _, _, rfl, rfl, _, rfl, by omega, by omega, ?_⟩
    refine for_range (fun i σ H' => ∃ (x : Str) (v4 : Option V), σ = [some (.int c), some (.str LET), some (.int n), some (.str x), v4] ∧ x.length = i ∧ (∀ d ∈ cps x, 97 ≤ d ∧ d ≤ 122) ∧ H' = H) ⟨"", none, rfl, rfl, (fun _ h => nomatch h), rfl⟩ ?_ ?_
    · rintro i σ H' hi ⟨x, v4, rfl, xl, xc, rfl⟩
      refine ⟨_, rfl, _, rfl, _, rfl, _, rfl, _, _, rfl, rfl, c, _, rfl, by omega, by omega, fun m m0 ml => ?_⟩
      have e := emod_in (m / 64) (m := 26) (by decide)
      obtain ⟨gn, hg⟩ := Int.eq_ofNat_of_zero_le e.1
      refine ⟨_, _, rfl, rfl, ⟨by decide, b9⟩, _, _, rfl, rfl, (by show (0 : Int) < 26; decide), LET, _, 97 + gn, rfl, rfl, zL, (by rw [hg]; exact atI_nat (at_let (by omega))), _, _, rfl, rfl, sz1000 (by show x.length + 1 ≤ 1000; omega), ?_⟩
      refine ⟨_, _, rfl, ?_, fun d hd => ?_, rfl⟩
      · rw [lenA, xl]
        rfl
      · rw [cps_append'] at hd
        rcases List.mem_append.mp hd with h | h
        · exact xc d h
        · have : d = 97 + gn := by simpa [cps] using h
          omega
    · rintro σ H' ⟨x, v4, rfl, xl, xc, rfl⟩
      have xl1 : 1 ≤ x.length := by omega
      have xl5 : x.length ≤ 5 := by omega
      refine ⟨_, rfl, _, _, rfl, rfl, ⟨by decide, b9⟩, _, _, rfl, rfl, (by show (0 : Int) < 2; decide), rfl, _, rfl, ite2 (fun _ => ?_) (fun _ => ?_)⟩
      · refine ⟨(by show 6 ≤ sizeLine; decide), fun q hq => ⟨q, rfl, ⟨_, SqT.of upd_same⟩, fun D hD => ?_⟩⟩
        refine comp_rel (Ys.tup (xs := tails.map V.str) (SqT.of upd_same)) (fun i _ y _ => ∀ t, tails[i]? = some t → y = .str (x ++ t)) (fun _ _ _ _ _ h _ => h) hD (by decide) (fun i y H2 R hy sm hR => ?_) (fun ys H2 sm hD' yl hy => ?_)
        · rw [List.getElem?_map] at hy
          cases et : tails[i]? with
          | none => rw [et] at hy; cases hy
          | some t =>
            rw [et] at hy
            cases hy
            have := (tails_ok t (List.mem_of_getElem? et)).1
            refine ⟨(Keep.refl _).set rfl, _, rfl, _, rfl, _, _, rfl, rfl, sz1000 (by omega), hR _ _ (Same.refl _) fun t' e' => ?_⟩
            rw [et] at e'
            cases e'
            rfl
        · have ey := strs_eq (ws := tails.map fun t => x ++ t) (yl.trans (by rfl)) fun i y b h1 h2 => by
            rw [List.getElem?_map] at h2
            cases et : tails[i]? with
            | none => rw [et] at h2; cases h2
            | some t =>
              rw [et] at h2
              cases h2
              exact hy i (.str t) y (by rw [List.getElem?_map, et]; rfl) h1 t et
          subst ey
          refine k _ D H2 rfl (nodup_map (fun a _ b _ e => app_inj e) tails_nd) (fun z hz => ?_) ((Same.upd hq).trans sm) ?_ hD'
          · obtain ⟨t, ht, rfl⟩ := List.mem_map.mp hz
            have tt := tails_ok t ht
            exact wr_app xl1 (by omega) xc tt.2
          · cases e : H' D with
            | none => rfl
            | some o =>
              have h9 : upd H' q (.tup (tails.map V.str)) D = none := hD
              have := Same.upd (o := .tup (tails.map V.str)) hq _ _ e
              rw [h9] at this
              cases this
      · refine ⟨6, rfl, by decide, by decide, fun D hD => ?_⟩
        refine comp_rel (Ys.rng (lo := 0) (n := 6)) (fun i _ y _ => y = .str (x ++ one (97 + ((n / 10 + 3 * ((0 : Int) + i)) % 26).toNat))) (fun _ _ _ _ _ h _ => h) hD (by decide) (fun i y H2 R hy sm hR => ?_) (fun ys H2 sm hD' yl hy => ?_)
        · obtain ⟨hi, rfl⟩ := rngV_get hy
          have e := emod_in (n / 10 + 3 * ((0 : Int) + i)) (m := 26) (by decide)
          have bi : Bt 64 ((0 : Int) + i) := bt_lt 64 (c := 100) (by omega) (by omega)
          obtain ⟨gn, hg⟩ := Int.eq_ofNat_of_zero_le e.1
          refine ⟨(Keep.refl _).set rfl, _, rfl, _, rfl, _, rfl, _, _, rfl, rfl, ⟨by decide, b9⟩, _, rfl, _, _, rfl, rfl, ⟨bl, b6 bi⟩, _, _, rfl, rfl, _, _, rfl, rfl, (by show (0 : Int) < 26; decide), LET, _, 97 + gn, rfl, rfl, zL, (by rw [hg]; exact atI_nat (at_let (by omega))), _, _, rfl, rfl, sz1000 (by show x.length + 1 ≤ 1000; omega), hR _ _ (Same.refl _) ?_⟩
          rw [hg]
          rfl
        · have ey := strs_eq (ws := (List.range 6).map fun i => x ++ one (97 + ((n / 10 + 3 * ((0 : Int) + (i : Nat))) % 26).toNat)) (yl.trans (by rfl)) fun i y b h1 h2 => by
            rw [List.getElem?_map] at h2
            cases et : (List.range 6)[i]? with
            | none => rw [et] at h2; cases h2
            | some t =>
              rw [et] at h2
              cases h2
              have ti : i = t := by
                obtain ⟨hl, e⟩ := List.getElem?_eq_some_iff.mp et
                simpa using e
              subst ti
              obtain ⟨v, hv⟩ : ∃ v, (rngV 0 6)[i]? = some v := ⟨_, List.getElem?_eq_getElem (by rw [rngV_len]; have := (List.getElem?_eq_some_iff.mp et).1; simpa using this)⟩
              exact hy i v y hv h1
          subst ey
          refine k _ D H2 rfl (nodup_map (fun a ha b hb e => ?_) List.nodup_range) (fun z hz => ?_) sm hD hD'
          · have h1 := one_inj (app_inj e)
            have ha' := List.mem_range.mp ha
            have hb' := List.mem_range.mp hb
            omega
          · obtain ⟨t, ht, rfl⟩ := List.mem_map.mp hz
            have e := emod_in (n / 10 + 3 * ((0 : Int) + (t : Nat))) (m := 26) (by decide)
            refine wr_app xl1 (by show x.length + 1 ≤ 8; omega) xc (fun d hd => ?_)
            rw [cps_one] at hd
            rw [List.mem_singleton.mp hd]
            omega
end
end K44

namespace TR
open PySem PySem.Spec PyProof.Rows L2 GM
theorem seq_nx {t u : TS} {D : Ends} {σ : L2.St} {H : Hp} (S : L2.St → Hp → Prop) (h : ∀ σ' H', S σ' H' → u D σ' H') (g : ∀ N : L2.St → Hp → Prop, (∀ σ' H', S σ' H' → N σ' H') → t { D with nx := N } σ H) : tSeq t u D σ H := g (u D) h
theorem seq_nx2 {t1 t2 u : TS} {D : Ends} {σ : L2.St} {H : Hp} (S : L2.St → Hp → Prop) (h : ∀ σ' H', S σ' H' → u D σ' H') (g : ∀ N : L2.St → Hp → Prop, (∀ σ' H', S σ' H' → N σ' H') → tSeq t1 t2 { D with nx := N } σ H) : tSeq t1 (tSeq t2 u) D σ H := g (u D) h
/-! ### the two largest of a list, noughts standing by -/
def Top2 (l : List Int) (f s : Int) : Prop := ∃ r, (l ++ [0, 0]).Perm (f :: s :: r) ∧ s ≤ f ∧ ∀ x ∈ r, x ≤ s
theorem Top2.uniq {l : List Int} {f s f' s' : Int} (h : Top2 l f s) (h' : Top2 l f' s') : f = f' ∧ s = s' := by
  obtain ⟨r, p, a, b⟩ := h
  obtain ⟨r', p', a', b'⟩ := h'
  have q : (f :: s :: r).Perm (f' :: s' :: r') := p.symm.trans p'
  have m1 : f ∈ f' :: s' :: r' := q.mem_iff.mp (List.mem_cons_self ..)
  have m2 : f' ∈ f :: s :: r := q.mem_iff.mpr (List.mem_cons_self ..)
  have ef : f = f' := by
    have u1 : f ≤ f' := by
      rcases List.mem_cons.mp m1 with h | h
      · omega
      · rcases List.mem_cons.mp h with h | h
        · omega
        · have := b' _ h; omega
    have u2 : f' ≤ f := by
      rcases List.mem_cons.mp m2 with h | h
      · omega
      · rcases List.mem_cons.mp h with h | h
        · omega
        · have := b _ h; omega
    omega
  subst ef
  have q2 : (s :: r).Perm (s' :: r') := (List.perm_cons f).mp q
  have n1 : s ∈ s' :: r' := q2.mem_iff.mp (List.mem_cons_self ..)
  have n2 : s' ∈ s :: r := q2.mem_iff.mpr (List.mem_cons_self ..)
  refine ⟨rfl, ?_⟩
  have u1 : s ≤ s' := by
    rcases List.mem_cons.mp n1 with h | h
    · omega
    · exact b' _ h
  have u2 : s' ≤ s := by
    rcases List.mem_cons.mp n2 with h | h
    · omega
    · exact b _ h
  omega
theorem Top2.nil : Top2 [] 0 0 := ⟨[], List.Perm.refl _, by decide, fun x h => nomatch h⟩
theorem Top2.base {l : List Int} {f s : Int} (h : Top2 l f s) : 0 ≤ s := by
  obtain ⟨r, p, a, b⟩ := h
  have c : (l ++ [0, 0]).countP (fun x => decide (0 ≤ x)) ≥ 2 := by
    rw [List.countP_append]
    have : List.countP (fun x : Int => decide (0 ≤ x)) [0, 0] = 2 := by decide
    omega
  rw [p.countP_eq] at c
  by_cases hs : 0 ≤ s
  · exact hs
  · exfalso
    have z : r.countP (fun x => decide (0 ≤ x)) = 0 := by
      rw [List.countP_eq_zero]
      intro x hx
      have := b x hx
      simp
      omega
    rw [List.countP_cons, List.countP_cons, z] at c
    have hs' : decide (0 ≤ s) = false := decide_eq_false hs
    rw [hs'] at c
    by_cases hf : 0 ≤ f <;> simp [hf] at c
theorem snoc_perm {l : List Int} {x : Int} : ((l ++ [x]) ++ [0, 0]).Perm (x :: (l ++ [0, 0])) := by
  rw [List.append_assoc]
  exact List.perm_middle
theorem Top2.up {l : List Int} {f s x : Int} (h : Top2 l f s) (hx : f < x) : Top2 (l ++ [x]) x f := by
  obtain ⟨r, p, a, b⟩ := h
  refine ⟨s :: r, snoc_perm.trans (p.cons x), by omega, fun y hy => ?_⟩
  rcases List.mem_cons.mp hy with h | h
  · omega
  · have := b y h; omega
theorem Top2.mid {l : List Int} {f s x : Int} (h : Top2 l f s) (h1 : x ≤ f) (h2 : s ≤ x) : Top2 (l ++ [x]) f x := by
  obtain ⟨r, p, a, b⟩ := h
  refine ⟨s :: r, snoc_perm.trans ((p.cons x).trans (List.Perm.swap f x _)), by omega, fun y hy => ?_⟩
  rcases List.mem_cons.mp hy with h | h
  · omega
  · have := b y h; omega
theorem Top2.low {l : List Int} {f s x : Int} (h : Top2 l f s) (h1 : x ≤ s) : Top2 (l ++ [x]) f s := by
  obtain ⟨r, p, a, b⟩ := h
  refine ⟨x :: r, snoc_perm.trans ((p.cons x).trans ((List.Perm.swap f x _).trans ((List.Perm.swap s x _).cons f))), a, fun y hy => ?_⟩
  rcases List.mem_cons.mp hy with h | h
  · omega
  · exact b y h
theorem Top2.one {l : List Int} {a : Int} (p : [a].Perm l) (h : 0 ≤ a) : Top2 l a 0 :=
  ⟨[0], (p.symm.append_right [0, 0]).trans (List.Perm.refl _), h, fun x hx => by rw [List.mem_singleton.mp hx]; exact Int.le_refl _⟩
theorem Top2.two {l r : List Int} {a b : Int} (p : (a :: b :: r).Perm l) (pw : (a :: b :: r).Pairwise (· ≥ ·)) (h : 0 ≤ b) : Top2 l a b := by
  rw [List.pairwise_cons, List.pairwise_cons] at pw
  refine ⟨r ++ [0, 0], (p.symm.append_right [0, 0]).trans (List.Perm.refl _), pw.1 b (List.mem_cons_self ..), fun x hx => ?_⟩
  rcases List.mem_append.mp hx with h' | h'
  · exact pw.2.1 x h'
  · have : x = 0 := by simpa using h'
    omega
/-- the need of a recipe by those of its parts -/
def Nd (ds : List Int) (d : Int) : Prop := ∃ f s, Top2 ds f s ∧ d = max f (s + 1)
theorem Nd.pos {ds : List Int} {d : Int} (h : Nd ds d) : 1 ≤ d := by
  obtain ⟨f, s, t, rfl⟩ := h
  have := t.base
  omega
theorem Nd.is {ds : List Int} {d f s : Int} (h : Nd ds d) (t : Top2 ds f s) : d = max f (s + 1) := by
  obtain ⟨f', s', t', rfl⟩ := h
  obtain ⟨rfl, rfl⟩ := t'.uniq t
  rfl
/-! ### counts of parts, a recipe ahead of its parts -/
def av : List Int → Int
  | [] => 0
  | c :: r => av r - c + 1
def Okc : List Int → Prop
  | [] => True
  | c :: r => Okc r ∧ 0 ≤ c ∧ c < 64 ∧ c ≤ av r
/-- p: the counts so far; m trees begun, l parts lacking -/
def Gd (p : List Int) (m l : Int) : Prop := ∀ r, Okc r → l ≤ av r → Okc (p ++ r) ∧ av r - l + m ≤ av (p ++ r)
theorem Gd.nil : Gd [] 0 0 := fun r h _ => ⟨h, by show av r - 0 + 0 ≤ av r; omega⟩
theorem Gd.root {p : List Int} {m c : Int} (h : Gd p m 0) (h0 : 0 ≤ c) (h1 : c < 64) : Gd (p ++ [c]) (m + 1) c := fun r hr hl => by
  rw [List.append_assoc]
  have e : av ([c] ++ r) = av r - c + 1 := rfl
  have k := h ([c] ++ r) ⟨hr, h0, h1, hl⟩ (by rw [e]; omega)
  exact ⟨k.1, by have := k.2; rw [e] at this; omega⟩
theorem Gd.part {p : List Int} {m l c : Int} (h : Gd p m l) (l1 : 1 ≤ l) (h0 : 0 ≤ c) (h1 : c < 64) : Gd (p ++ [c]) m (l - 1 + c) := fun r hr hl => by
  rw [List.append_assoc]
  have e : av ([c] ++ r) = av r - c + 1 := rfl
  have k := h ([c] ++ r) ⟨hr, h0, h1, (by show c ≤ av r; omega)⟩ (by rw [e]; omega)
  exact ⟨k.1, by have := k.2; rw [e] at this; omega⟩
theorem okc_zeros : ∀ n : Nat, Okc (List.replicate n 0) ∧ av (List.replicate n 0) = n
  | 0 => ⟨trivial, rfl⟩
  | n + 1 => by
    have k := okc_zeros n
    rw [List.replicate_succ]
    refine ⟨⟨k.1, by decide, by decide, by rw [k.2]; omega⟩, ?_⟩
    show av (List.replicate n 0) - 0 + 1 = _
    rw [k.2]
    omega
theorem Gd.done {p : List Int} {m : Int} (h : Gd p m 0) : Okc p := by
  have k := h [] trivial (Int.le_refl _)
  rw [List.append_nil] at k
  exact k.1
theorem Gd.whole {p : List Int} {m : Int} {l : Nat} (h : Gd p m l) (m0 : 0 ≤ m) (m1 : m < 64) : Okc (m :: (p ++ List.replicate l 0)) := by
  have z := okc_zeros l
  have k := h _ z.1 (by rw [z.2]; omega)
  exact ⟨k.1, m0, m1, by have := k.2; rw [z.2] at this; omega⟩
theorem last_ix (i : List Int) (x : Int) : ixN ((i ++ [x]).map V.int).length (-1) = some i.length := by
  unfold ixN
  rw [if_neg (by decide), List.length_map, List.length_append, if_pos (by simp; omega)]
  congr 1
  simp
  omega
theorem last_set (i : List Int) (x y : Int) : ((i ++ [x]).map V.int).set i.length (.int y) = (i ++ [y]).map V.int := by
  rw [List.map_append, List.map_append]
  rw [List.set_append_right _ _ (by rw [List.length_map]; exact Nat.le_refl _)]
  simp
theorem last_at (i : List Int) (x : Int) : atI ((i ++ [x]).map V.int) (-1) = some (.int x) := by
  rw [List.map_append]
  exact atI_last _ _
theorem sum_snoc (i : List Int) (x : Int) : (i ++ [x]).sum = i.sum + x := by simp
theorem sum_nn : ∀ {l : List Int}, (∀ x ∈ l, 0 ≤ x) → 0 ≤ l.sum
  | [], _ => by decide
  | x :: r, h => by
    have := h x (List.mem_cons_self ..)
    have := sum_nn (l := r) fun y hy => h y (List.mem_cons_of_mem _ hy)
    rw [List.sum_cons]
    omega
theorem sum_le : ∀ {l : List Int}, (∀ x ∈ l, x ≤ 4) → l.sum ≤ 4 * l.length
  | [], _ => by decide
  | x :: r, h => by
    have := h x (List.mem_cons_self ..)
    have := sum_le (l := r) fun y hy => h y (List.mem_cons_of_mem _ hy)
    rw [List.sum_cons, List.length_cons]
    omega
theorem nil_or_snoc (l : List Int) : l = [] ∨ ∃ i x, l = i ++ [x] := by
  cases h : l.reverse with
  | nil => exact .inl (List.reverse_eq_nil_iff.mp h)
  | cons x i => exact .inr ⟨i.reverse, x, by have := congrArg List.reverse h; simpa using this⟩
/-! ### trees in the heap -/
def Am (H : Hp) (m : Addr) (n : Nat) : Prop := ∃ t b : Int, H m = some (.tup [.int t, .int b]) ∧ 0 ≤ t ∧ 1 ≤ b ∧ Bt (64 * n - 1) t ∧ Bt (64 * n - 1) b
theorem Am.keep {H H' : Hp} {m : Addr} {n : Nat} (h : Am H m n) (k : Tk H H') : Am H' m n := by
  obtain ⟨t, b, e, r⟩ := h
  exact ⟨t, b, k _ _ e, r⟩
/-- a part with its size and its need -/
abbrev Pt := V × Nat × Int
def szs (cs : List Pt) : Nat := (cs.map (·.2.1)).sum
def Tr (H : Hp) : Nat → V → Nat → Int → Prop
  | 0, _, _, _ => False
  | n + 1, v, s, d =>
    (∃ (p m : Addr) (x : Str), v = .ref p ∧ H p = some (.tup [.str "ware", .str x, .ref m]) ∧ Am H m 1 ∧ s = 1 ∧ d = 0) ∨
    (∃ (p m q : Addr) (x : Str) (cs : List Pt), v = .ref p ∧ H p = some (.tup [.str "recipe", .str x, .ref m, .ref q]) ∧ H q = some (.tup (cs.map (·.1))) ∧ 1 ≤ cs.length ∧ cs.length < 64 ∧
      (∀ c ∈ cs, Tr H n c.1 c.2.1 c.2.2) ∧ s = 1 + szs cs ∧ Nd (cs.map (·.2.2)) d ∧ Am H m s)
theorem Tr.keep {H H' : Hp} (k : Tk H H') : ∀ {n : Nat} {v : V} {s : Nat} {d : Int}, Tr H n v s d → Tr H' n v s d
  | 0, _, _, _, h => h
  | n + 1, v, s, d, h => by
    rcases h with ⟨p, m, x, e, hp, am, r⟩ | ⟨p, m, q, x, cs, e, hp, hq, l1, l2, hc, hs, hd, am⟩
    · exact .inl ⟨p, m, x, e, k _ _ hp, am.keep k, r⟩
    · exact .inr ⟨p, m, q, x, cs, e, k _ _ hp, k _ _ hq, l1, l2, fun c h => Tr.keep k (hc c h), hs, hd, am.keep k⟩
theorem Tr.up {H : Hp} : ∀ {n m : Nat} {v : V} {s : Nat} {d : Int}, n ≤ m → Tr H n v s d → Tr H m v s d
  | 0, _, _, _, _, _, h => h.elim
  | n + 1, 0, _, _, _, l, _ => absurd l (by omega)
  | n + 1, m + 1, v, s, d, l, h => by
    rcases h with h | ⟨p, a, q, x, cs, e, hp, hq, l1, l2, hc, r⟩
    · exact .inl h
    · exact .inr ⟨p, a, q, x, cs, e, hp, hq, l1, l2, fun c h => Tr.up (by omega) (hc c h), r⟩
theorem Tr.size {H : Hp} {n : Nat} {v : V} {s : Nat} {d : Int} (h : Tr H n v s d) : 1 ≤ s := by
  cases n with
  | zero => exact h.elim
  | succ n =>
    rcases h with ⟨_, _, _, _, _, _, rfl, _⟩ | ⟨_, _, _, _, _, _, _, _, _, _, _, rfl, _⟩ <;> omega
theorem Tr.need {H : Hp} {n : Nat} {v : V} {s : Nat} {d : Int} (h : Tr H n v s d) : 0 ≤ d := by
  cases n with
  | zero => exact h.elim
  | succ n =>
    rcases h with ⟨_, _, _, _, _, _, _, rfl⟩ | ⟨_, _, _, _, _, _, _, _, _, _, _, _, hd, _⟩
    · exact Int.le_refl _
    · have := hd.pos; omega
/-- what each tree shows at sight: a kind, and at the third place its amount -/
theorem Tr.shows {H : Hp} {n : Nat} {v : V} {s : Nat} {d : Int} (h : Tr H n v s d) : ∃ (p m : Addr) (y x : Str) (xs : List V), v = .ref p ∧ H p = some (.tup (.str y :: .str x :: .ref m :: xs)) ∧ Am H m s := by
  cases n with
  | zero => exact h.elim
  | succ n =>
    rcases h with ⟨p, m, x, e, hp, am, rfl, _⟩ | ⟨p, m, q, x, cs, e, hp, hq, l1, l2, hc, hs, hd, am⟩
    · exact ⟨p, m, _, x, [], e, hp, am⟩
    · exact ⟨p, m, _, x, _, e, hp, am⟩
theorem szs_cons (c : Pt) (cs : List Pt) : szs (c :: cs) = c.2.1 + szs cs := by simp [szs]
theorem szs_mem {cs : List Pt} {c : Pt} (h : c ∈ cs) : c.2.1 ≤ szs cs := by
  induction cs with
  | nil => cases h
  | cons a r ih =>
    rw [szs_cons]
    rcases List.mem_cons.mp h with h | h
    · subst h; omega
    · have := ih h; omega
theorem szs_append (a b : List Pt) : szs (a ++ b) = szs a + szs b := by simp [szs]
theorem szs_rev (a : List Pt) : szs a.reverse = szs a := by simp [szs]
theorem pe_bm0K {X : Cx} {K : PySem.W.Frag} {o : Expr} {to : TE} {name : Str} {apos cpos : Pos} {T id : String} {r : V → List V → Hp → VK → Prop} (hK : X.K = K) (pa : PlainAttrs T) (slot : Slot T name id) (hty : typeOf (.builtin id) = pure (.type "method_descriptor")) (hm : MtR X id r) (ho : PE X o to)
    (hbase : attributeBase o name X.env (eval o X.env) = eval o X.env := by rfl) (hline : (apos.endLine == cpos.line) = true := by rfl) : PE X (.Call (.Attribute o name apos) [] [] cpos) (tBM0 K T r to) := hK ▸ pe_bm0 pa slot hty hm ho hbase hline
/-! ### things taken off a pile within a comprehension -/
def Bx (a : Addr) (H H' : Hp) : Prop := ∀ b o, b ≠ a → H b = some o → H' b = some o
theorem Bx.tk {a : Addr} {H H' : Hp} {xs : List V} (h : Bx a H H') (ha : H a = some (.lst xs)) : Tk H H' := fun b ys e => h b _ (fun z => by rw [z, ha] at e; cases e) e
theorem comp_pop {K : PySem.W.Frag} {Pl D : Addr} {r u : List V} {H1 : Hp} {QD : Hp → Prop} (hP : H1 Pl = some (.lst (r ++ u.reverse))) (hD : H1 D = none) (hl : u.length ≤ 1000)
    (hd : ∀ H', Bx Pl H1 H' → H' Pl = some (.lst r) → H' D = some (.lst u) → QD H') :
    ∃ W : Nat → Nat → List V → Hp → Prop, (∃ m, W 0 m [] (upd H1 D (.lst []))) ∧ ∀ i m ys H, W i m ys H → H D = some (.lst ys) ∧ ys.length < sizeLine ∧
      (((Itr 0 u.length).stop i H ∧ QD H) ∨ ((Itr 0 u.length).go i H ∧ ∀ x H', (Itr 0 u.length).yld i H x H' → gName 0 x [none, some (.ref Pl)] H' fun σ2 H2 => Keep [none, some (.ref Pl)] σ2 ∧ tNoIf σ2 H2 fun b H3 =>
        if b = true then tBM0 K "list" rPop (tVar 1) σ2 H3 fun y H4 => H4 D = some (.lst ys) ∧ ∃ m', m' < m ∧ W (i + 1) m' (ys ++ [y]) (upd H4 D (.lst (ys ++ [y]))) else ∃ m', m' < m ∧ W (i + 1) m' ys H3)) := by
  have DP : D ≠ Pl := fun z => by rw [z, hP] at hD; cases hD
  refine ⟨fun i m ys H => m = u.length - i ∧ i ≤ u.length ∧ Bx Pl H1 H ∧ H Pl = some (.lst (r ++ (u.drop i).reverse)) ∧ H D = some (.lst ys) ∧ ys = u.take i,
    ⟨_, rfl, Nat.zero_le _, fun b o n e => by rw [upd_ne (ne_of_none e hD)]; exact e, by rw [upd_ne DP.symm]; exact hP, upd_same, rfl⟩, ?_⟩
  rintro i m ys H ⟨rfl, hi, bx, hPl, hDD, rfl⟩
  refine ⟨hDD, small1000 (by rw [List.length_take]; omega), ?_⟩
  by_cases hlt : i < u.length
  · refine .inr ⟨hlt, fun x H' y => ?_⟩
    obtain ⟨rfl, _⟩ := y
    obtain ⟨v, hv⟩ : ∃ v, u[i]? = some v := ⟨_, List.getElem?_eq_getElem hlt⟩
    have ed : u.drop i = v :: u.drop (i + 1) := by
      rw [List.drop_eq_getElem_cons hlt]
      congr 1
      rw [List.getElem?_eq_getElem hlt] at hv
      exact Option.some.inj hv
    have el : r ++ (u.drop i).reverse = (r ++ (u.drop (i + 1)).reverse) ++ [v] := by rw [ed, List.reverse_cons, List.append_assoc]
    rw [el] at hPl
    refine ⟨(Keep.refl _).set rfl, ?_⟩
    unfold tNoIf
    dsimp only
    rw [if_pos rfl]
    refine ⟨_, rfl, .inl ⟨rfl, _, SqL.of hPl⟩, Pl, _, v, rfl, rfl, hPl, by simp, ?_⟩
    have ex : ((r ++ (u.drop (i + 1)).reverse) ++ [v]).dropLast = r ++ (u.drop (i + 1)).reverse := by simp
    rw [ex]
    refine ⟨by rw [upd_ne DP]; exact hDD, u.length - (i + 1), by omega, rfl, hlt, fun b o n e => ?_, ?_, upd_same, ?_⟩
    · rw [upd_ne (ne_of_none e hD), upd_ne n]
      exact bx b o n e
    · rw [upd_ne DP.symm]
      exact upd_same
    · rw [List.take_add_one, hv]
      rfl
  · have e : i = u.length := by omega
    subst e
    rw [List.drop_length, List.reverse_nil, List.append_nil] at hPl
    rw [List.take_length] at hDD
    exact .inl ⟨Nat.le_refl _, hd H bx hPl hDD⟩
theorem okc_drop : ∀ {cs : List Int} (k : Nat), Okc cs → Okc (cs.drop k)
  | _, 0, h => h
  | [], _ + 1, h => h
  | _ :: r, k + 1, h => okc_drop (cs := r) k h.1
theorem drop_at {cs : List Int} {k : Nat} {c : Int} (h : cs[k]? = some c) : cs.drop k = c :: cs.drop (k + 1) := by
  obtain ⟨hl, e⟩ := List.getElem?_eq_some_iff.mp h
  rw [List.drop_eq_getElem_cons hl, e]
/-- how many counts are not nought -/
def nzc (cs : List Int) : Nat := (cs.filter fun c => c != 0).length
theorem nzc_le (cs : List Int) : nzc cs ≤ cs.length := List.length_filter_le _ _
theorem nzc_zero (cs : List Int) : nzc (0 :: cs) = nzc cs := rfl
theorem nzc_ne {c : Int} (cs : List Int) (h : c ≠ 0) : nzc (c :: cs) = nzc cs + 1 := by
  unfold nzc
  rw [List.filter_cons_of_pos (by simpa using h)]
  rfl
theorem nzc_app (a b : List Int) : nzc (a ++ b) = nzc a + nzc b := by simp [nzc]
theorem nzc_zeros (n : Nat) : nzc (List.replicate n 0) = 0 := by
  induction n with
  | zero => rfl
  | succ n ih => rw [List.replicate_succ, nzc_zero, ih]
/-- a pile of trees, behind the last j counts -/
structure Pile (H : Hp) (cs : List Int) (j : Nat) (pl : List Pt) : Prop where
  tr : ∀ c ∈ pl, Tr H (nzc (cs.drop (cs.length - j)) + 1) c.1 c.2.1 c.2.2
  sz : szs pl = j
  ln : (pl.length : Int) = av (cs.drop (cs.length - j))
  hd : 1 ≤ j → ∃ pl' q, pl = pl' ++ [q] ∧ ∀ c, cs[cs.length - j]? = some c → 1 ≤ c → 1 ≤ q.2.2
theorem Pile.keep {H H' : Hp} {cs : List Int} {j : Nat} {pl : List Pt} (h : Pile H cs j pl) (k : Tk H H') : Pile H' cs j pl := ⟨fun c hc => (h.tr c hc).keep k, h.sz, h.ln, h.hd⟩
theorem Pile.nil {H : Hp} {cs : List Int} : Pile H cs 0 [] := ⟨(fun _ h => nomatch h), rfl, by rw [Nat.sub_zero, List.drop_length]; rfl, fun h => absurd h (by decide)⟩
theorem Pile.ware {H : Hp} {cs : List Int} {j k : Nat} {pl : List Pt} {v : V} (h : Pile H cs j pl) (hj : cs.length = k + 1 + j) (hc : cs[k]? = some 0) (t : Tr H 1 v 1 0) : Pile H cs (j + 1) (pl ++ [(v, 1, 0)]) := by
  have e1 : cs.length - (j + 1) = k := by omega
  have e2 : cs.length - j = k + 1 := by omega
  refine ⟨fun c hc' => ?_, ?_, ?_, fun _ => ⟨pl, _, rfl, fun c hc' h1 => ?_⟩⟩
  · rw [e1, drop_at hc, nzc_zero]
    rcases List.mem_append.mp hc' with h' | h'
    · have := h.tr c h'
      rw [e2] at this
      exact this
    · rw [List.mem_singleton.mp h']
      exact t.up (by omega)
  · rw [szs_append, h.sz]
    rfl
  · have := h.ln
    rw [e2] at this
    rw [e1, drop_at hc, List.length_append]
    show ((pl.length + 1 : Nat) : Int) = av (cs.drop (k + 1)) - 0 + 1
    omega
  · rw [e1, hc] at hc'
    cases hc'
    omega
theorem Pile.split {H : Hp} {cs : List Int} {j k : Nat} {c : Int} {pl : List Pt} (h : Pile H cs j pl) (ok : Okc cs) (hj : cs.length = k + 1 + j) (hc : cs[k]? = some c) : ∃ r u : List Pt, pl = r ++ u.reverse ∧ (u.length : Int) = c ∧ u.length < 64 := by
  have o := okc_drop k ok
  rw [drop_at hc] at o
  obtain ⟨_, c0, c64, ca⟩ := o
  have e2 : cs.length - j = k + 1 := by omega
  have l := h.ln
  rw [e2] at l
  refine ⟨pl.take (pl.length - c.toNat), (pl.drop (pl.length - c.toNat)).reverse, by rw [List.reverse_reverse, List.take_append_drop], ?_, ?_⟩ <;> rw [List.length_reverse, List.length_drop] <;> omega
theorem Tr.recipe {H : Hp} {n : Nat} {p m q : Addr} {x : Str} {u : List Pt} (hp : H p = some (.tup [.str "recipe", .str x, .ref m, .ref q])) (hq : H q = some (.tup (u.map (·.1)))) (l1 : 1 ≤ u.length) (l2 : u.length < 64) (ht : ∀ c ∈ u, Tr H n c.1 c.2.1 c.2.2) (am : Am H m (1 + szs u)) :
    ∃ d, 1 ≤ d ∧ Tr H (n + 1) (.ref p) (1 + szs u) d := by
  obtain ⟨d, hd⟩ : ∃ d, Nd (u.map (·.2.2)) d := by
    have : ∀ l : List Int, ∃ f s, Top2 l.reverse f s := fun l => by
      induction l with
      | nil => exact ⟨0, 0, Top2.nil⟩
      | cons x r ih =>
        obtain ⟨f, s, t⟩ := ih
        rw [List.reverse_cons]
        by_cases h1 : f < x
        · exact ⟨_, _, t.up h1⟩
        · by_cases h2 : s ≤ x
          · exact ⟨_, _, t.mid (by omega) h2⟩
          · exact ⟨_, _, t.low (by omega)⟩
    obtain ⟨f, s, t⟩ := this (u.map (·.2.2)).reverse
    rw [List.reverse_reverse] at t
    exact ⟨_, f, s, t, rfl⟩
  exact ⟨d, hd.pos, .inr ⟨p, m, q, x, u, rfl, hp, hq, l1, l2, ht, rfl, hd, am⟩⟩
theorem Pile.recipe {H : Hp} {cs : List Int} {j k : Nat} {c d : Int} {r u : List Pt} {v : V} (h : Pile H cs j (r ++ u.reverse)) (hj : cs.length = k + 1 + j) (hc : cs[k]? = some c) (c0 : c ≠ 0) (hl : (u.length : Int) = c) (d1 : 1 ≤ d) (t : Tr H (nzc (cs.drop (cs.length - j)) + 1 + 1) v (1 + szs u) d) : Pile H cs (j + 1) (r ++ [(v, 1 + szs u, d)]) := by
  have e1 : cs.length - (j + 1) = k := by omega
  have e2 : cs.length - j = k + 1 := by omega
  refine ⟨fun c' hc' => ?_, ?_, ?_, fun _ => ⟨r, _, rfl, fun c hc' h1 => d1⟩⟩
  · rw [e1, drop_at hc, nzc_ne _ c0]
    rcases List.mem_append.mp hc' with h' | h'
    · have := h.tr c' (List.mem_append_left _ h')
      rw [e2] at this
      exact this.up (by omega)
    · rw [List.mem_singleton.mp h']
      rw [e2] at t
      exact t
  · have := h.sz
    rw [szs_append, szs_rev] at this
    rw [szs_append, szs_cons]
    show szs r + (1 + szs u + 0) = j + 1
    omega
  · have := h.ln
    rw [e2, List.length_append, List.length_reverse] at this
    rw [e1, drop_at hc, List.length_append]
    show ((r.length + 1 : Nat) : Int) = av (cs.drop (k + 1)) - c + 1
    omega
theorem len_szs {H : Hp} {n : Nat} : ∀ {l : List Pt}, (∀ c ∈ l, Tr H n c.1 c.2.1 c.2.2) → l.length ≤ szs l
  | [], _ => Nat.zero_le _
  | q :: r, h => by
    rw [szs_cons, List.length_cons]
    have := (h q (List.mem_cons_self ..)).size
    have := len_szs (l := r) fun c hc => h c (List.mem_cons_of_mem _ hc)
    omega
/-! ### paths -/
def AtP (H : Hp) : V → List Nat → V → Prop
  | v, [], u => v = u
  | v, k :: r, u => ∃ (p m q : Addr) (x : Str) (vs : List V) (c : V), v = .ref p ∧ H p = some (.tup [.str "recipe", .str x, .ref m, .ref q]) ∧ H q = some (.tup vs) ∧ vs[k]? = some c ∧ AtP H c r u
theorem AtP.keep {H H' : Hp} (t : Tk H H') : ∀ {v : V} {ks : List Nat} {u : V}, AtP H v ks u → AtP H' v ks u
  | _, [], _, h => h
  | _, _ :: _, _, ⟨p, m, q, x, vs, c, e, hp, hq, hc, h⟩ => ⟨p, m, q, x, vs, c, e, t _ _ hp, t _ _ hq, hc, AtP.keep t h⟩
theorem AtP.snoc {H : Hp} {k : Nat} {p m q : Addr} {x : Str} {vs : List V} {c : V} (hp : H p = some (.tup [.str "recipe", .str x, .ref m, .ref q])) (hq : H q = some (.tup vs)) (hc : vs[k]? = some c) : ∀ {v : V} {ks : List Nat}, AtP H v ks (.ref p) → AtP H v (ks ++ [k]) c
  | _, [], h => ⟨p, m, q, x, vs, c, h, hp, hq, hc, rfl⟩
  | _, _ :: _, ⟨p', m', q', x', vs', c', e, hp', hq', hc', h⟩ => ⟨p', m', q', x', vs', c', e, hp', hq', hc', AtP.snoc hp hq hc h⟩
abbrev pth (ks : List Nat) : List V := ks.map fun (k : Nat) => V.int (k : Int)
/-- an entry of a list of paths: the path and the part that lies there; s the part's size -/
def Ent (H : Hp) (root : V) (N : Nat) (e : Addr) (s : Nat) : Prop := ∃ (pa : Addr) (ks : List Nat) (v : V) (n : Nat) (d : Int), H e = some (.tup [.ref pa, v]) ∧ H pa = some (.tup (pth ks)) ∧ AtP H root ks v ∧ Tr H n v s d ∧ ks.length + n ≤ N
end TR

namespace K44
open PySem PySem.Spec PyProof.Rows L2 GM TM TR
def spNeedOf (n : Nat) : Sp := fun vs H Q _ => ∃ v s d, vs = [v] ∧ Tr H n v s d ∧ ∀ H', Same H H' → Q (.int d) H'
def spNeeds (n : Nat) : Sp := fun vs H Q _ => ∃ (p m q : Addr) (x : Str) (cs : List Pt), vs = [.ref p] ∧ H p = some (.tup [.str "recipe", .str x, .ref m, .ref q]) ∧ H q = some (.tup (cs.map (·.1))) ∧ cs.length < 64 ∧ (∀ c ∈ cs, Tr H n c.1 c.2.1 c.2.2) ∧
  ∀ l H', Same H H' → H l = none → H' l = some (.lst ((cs.map (·.2.2)).map V.int)) → Q (.ref l) H'
section
variable {P : Program} {w : World} {K : PySem.W.Frag} {mg : Str → Option Value} {base : Heap}
theorem no_need {k : Nat} {f : Addr} {fd : FuncData} : FnOk P w K mg base CX0 k f fd ["tree"] (spNeedOf 0) := ⟨fun vs H Q E ⟨_, _, _, _, h, _⟩ => h.elim, fun A outer s H args us vs Q E _ _ _ _ ⟨_, _, _, _, h, _⟩ => h.elim⟩
theorem ndPart : (["part"] : List Str).Nodup := by decide +kernel
theorem scNeeds : FnScope ["tree"] ["tree"] (defScope sNeeds) := ⟨rfl, rfl, rfl, by decide +kernel, rfl, by decide +kernel, by decide +kernel⟩
theorem ok_needs {k n : Nat} {f : Addr} {fd : FuncData} (F : Fun K "needs_of_children" "needs_of_children" sNeeds f fd) (cN : Cal P w K mg base CX0 k "need_of" ["tree"] (spNeedOf n)) : FnOk P w K mg base CX0 (k + 1) f fd ["tree"] (spNeeds n) := by
  refine F.ok scNeeds (fun vs H Q E h => ?_) (fun cdv A outer s H vs Q E hr h => ?_)
  · obtain ⟨_, _, _, _, _, rfl, _⟩ := h
    rfl
  · obtain ⟨p, m, q, x, cs, rfl, hp, hq, l, hc, kk⟩ := h
    refine ⟨_, (pss_one (ps_ret (pe_comp (N' := ["part"]) (cl := []) (fun _ => [none]) rfl rfl (by decide +kernel) (by decide +kernel) (clOk_plain (by decide +kernel)) (fun _ _ => blkN_none)
            (pi_tup (pit 0 3)) (fun _ _ _ _ _ => pg_name (i := 0) ndPart rfl (Or.inl rfl)) (fun _ _ _ _ _ => pifs_nil)
            (fun _ _ _ _ _ => pe_cal cN hr rfl pass0 (pa_cons (pv 0) pa_nil))))), ?_⟩
    refine ⟨p, _, _, rfl, SqT.of hp, rfl, q, rfl, ⟨_, SqT.of hq⟩, fun D hD => ?_⟩
    refine comp_rel (Ys.tup (SqT.of hq)) (fun i _ y _ => ∀ c : Pt, cs[i]? = some c → y = .int c.2.2) (fun _ _ _ _ _ h _ => h) hD (by rw [List.length_map]; omega) (fun i v H' R hv sm hR => ?_) (fun ys H' sm hD' yl hy => ?_)
    · rw [List.getElem?_map] at hv
      cases e : cs[i]? with
      | none => rw [e] at hv; cases hv
      | some c =>
        rw [e] at hv
        cases hv
        have ht := hc c (List.mem_of_getElem? e)
        exact ⟨(Keep.refl _).set rfl, _, rfl, _, _, _, rfl, ht.keep sm.tk, fun H2 s2 => hR _ _ s2 fun c' e' => by rw [e] at e'; cases e'; rfl⟩
    · rw [List.length_map] at yl
      have ey : ys = (cs.map (·.2.2)).map V.int := by
        refine list_eq (by rw [List.length_map, List.length_map]; exact yl) fun i a b ha hb => ?_
        rw [List.map_map, List.getElem?_map] at ha
        cases e : cs[i]? with
        | none => rw [e] at ha; cases ha
        | some c =>
          rw [e] at ha
          cases ha
          exact hy i c.1 b (by rw [List.getElem?_map, e]; rfl) hb c e
      subst ey
      exact kk D H' sm hD hD'
theorem scNeedOf : FnScope ["tree", "needs", "second"] ["tree"] (defScope sNeedOf) := ⟨rfl, rfl, rfl, by decide +kernel, rfl, by decide +kernel, by decide +kernel⟩
theorem ok_needof {k n : Nat} {f : Addr} {fd : FuncData} (F : Fun K "need_of" "need_of" sNeedOf f fd) (T : Txt mg) (cS : Cal P w K mg base CX0 k "needs_of_children" ["tree"] (spNeeds n)) : FnOk P w K mg base CX0 (k + 1) f fd ["tree"] (spNeedOf (n + 1)) := by
  refine F.ok scNeedOf (fun vs H Q E h => ?_) (fun cdv A outer s H vs Q E hr h => ?_)
  · obtain ⟨_, _, _, rfl, _⟩ := h
    rfl
  · obtain ⟨v, s, d, rfl, h, kk⟩ := h
    refine ⟨_, (pss_cons (ps_if (pt_cmpR op_eq (pit 0 0) pe_str (nomark _))
        (pss_one (ps_ret pe_int))
        pss_nil)
      (pss_cons (ps_set (i := 1) scNeedOf.nd rfl (Or.inl rfl) (pe_sortR rfl T.sorted' (pe_cal cS hr rfl pass0 (pa_cons (pv 0) pa_nil))))
      (pss_cons (ps_set (i := 2) scNeedOf.nd rfl (Or.inl rfl) (pe_ifExp (pt_cmpR op_gt (pe_callB call_len_seq rfl T.len PySem.boot_len (pa_cons (pv 1) pa_nil)) pe_int (nomark _)) (pe_ix ix_list (pv 1) pe_int (fun _ _ => rfl)) pe_int))
      (pss_one (ps_ret (pe_callB (call_max2 rfl) rfl T.max' boot_max (pa_cons (pe_ix ix_list (pv 1) pe_int (fun _ _ => rfl)) (pa_cons (pe_op op_add (pv 2) pe_int) pa_nil)))))))), ?_⟩
    rcases h with ⟨p, m, x, rfl, hp, am, _, rfl⟩ | ⟨p, m, q, x, cs, rfl, hp, hq, l1, l2, hc, hs, hd, am⟩
    · exact ⟨p, _, _, rfl, SqT.of hp, rfl, rfl, _, rfl, iteT (kk _ (Same.refl _))⟩
    · refine ⟨p, _, _, rfl, SqT.of hp, rfl, rfl, _, rfl, iteF ?_⟩
      refine ⟨_, rfl, p, m, q, x, cs, rfl, hp, hq, l2, hc, fun l H1 s1 hl hl1 => ?_⟩
      refine ⟨l, _, rfl, SqL.of hl1, by rw [List.length_map]; exact l2, fun r ns pm pw hr1 => ?_⟩
      have nl : ns.length = cs.length := by rw [pm.length_eq, List.length_map]
      have nn : ∀ y ∈ ns, 0 ≤ y := fun y hy => by
        obtain ⟨c, hc', rfl⟩ := List.mem_map.mp (pm.mem_iff.mp hy)
        exact (hc c hc').need
      have sR : Same H (upd H1 r (.lst (ns.map V.int))) := s1.trans (Same.upd hr1)
      match ns, nl, pm, pw, nn with
      | [], nl, _, _, _ => rw [← nl] at l1; exact absurd l1 (by decide)
      | [a], nl, pm, pw, nn =>
        refine ⟨_, rfl, r, _, rfl, .inl (SqL.of upd_same), _, _, rfl, rfl, _, rfl, iteF ?_⟩
        refine ⟨_, rfl, r, _, 0, .int a, rfl, rfl, SqL.of upd_same, atI_nat (j := 0) rfl, _, rfl, _, _, rfl, rfl, _, _, rfl, ?_⟩
        have a0 := nn a (List.mem_cons_self ..)
        have e := hd.is (Top2.one pm a0)
        have e' : (if (0 : Int) + 1 > a then (0 : Int) + 1 else a) = d := by rw [e]; split <;> omega
        rw [e']
        exact kk _ sR
      | a :: b :: t, nl, pm, pw, nn =>
        refine ⟨_, rfl, r, _, rfl, .inl (SqL.of upd_same), _, _, rfl, rfl, _, rfl, ?_⟩
        have hg : decide (((((a :: b :: t).map V.int).length : Nat) : Int) > 1) = true := decide_eq_true (by simp; omega)
        rw [hg]
        refine iteT ⟨_, rfl, r, _, 1, .int b, rfl, rfl, SqL.of upd_same, atI_nat (j := 1) rfl, ?_⟩
        refine ⟨_, rfl, r, _, 0, .int a, rfl, rfl, SqL.of upd_same, atI_nat (j := 0) rfl, _, rfl, _, _, rfl, rfl, _, _, rfl, ?_⟩
        have b0 := nn b (by simp)
        have e := hd.is (Top2.two pm pw b0)
        have e' : (if b + 1 > a then b + 1 else a) = d := by rw [e]; split <;> omega
        rw [e']
        exact kk _ sR
end
end K44

namespace K44
open PySem PySem.Spec PyProof.Rows L2 GM TM TR
/-- counts that a tree may be built by -/
structure Cts (cs : List Int) : Prop where
  ok : Okc cs
  hd : ∃ c, cs[0]? = some c ∧ 1 ≤ c
  ln : cs.length ≤ 100
  nz : nzc cs ≤ 61
def spFreeC : Sp := fun vs H Q _ => ∃ a : Addr, vs = [.ref a, .int 60] ∧ Lf H a ∧ ∀ (cs : List Int) p H', Cts cs → SmB a H H' → H p = none → p ≠ a → H' p = some (.lst (cs.map V.int)) → Q (.ref p) H'
section
variable {P : Program} {w : World} {K : PySem.W.Frag} {mg : Str → Option Value} {base : Heap}
theorem scFreeC : FnScope ["_law_left", "_law_most", "_law_counts_here", "_law_lacking", "_law_total_here", "_law_many"] ["_law_left", "_law_most"] (defScope sFreeC) := ⟨rfl, rfl, rfl, by decide +kernel, rfl, by decide +kernel, by decide +kernel⟩
theorem ok_freec {f : Addr} {fd : FuncData} (F : Fun K "_law_free_counts" "_law_free_counts" sFreeC f fd) (T : Txt mg) (cD : Cal P w K mg base CX0 1 "_law_digit" ["_law_left", "_law_many"] spDigit) : FnOk P w K mg base CX0 2 f fd ["_law_left", "_law_most"] spFreeC := by
  refine F.ok scFreeC (fun vs H Q E h => ?_) (fun cdv A outer s H vs Q E hr h => ?_)
  · obtain ⟨_, rfl, _⟩ := h
    rfl
  · obtain ⟨a, rfl, lf, k⟩ := h
    refine ⟨_, (pss_cons (ps_set (i := 2) scFreeC.nd rfl (Or.inl rfl) (pe_lst (pa_cons (pe_op op_add pe_int (pe_cal cD hr rfl pass0 (pa_cons (pv 0) (pa_cons pe_int pa_nil)))) pa_nil)))
      (pss_cons (ps_set (i := 3) scFreeC.nd rfl (Or.inl rfl) (pe_lst (pa_cons (pe_ix ix_list (pv 2) pe_int (fun _ _ => rfl)) pa_nil)))
      (pss_cons (ps_set (i := 4) scFreeC.nd rfl (Or.inl rfl) (pe_op op_add pe_int (pe_ix ix_list (pv 2) pe_int (fun _ _ => rfl))))
      (pss_cons (ps_while PassesOwn.never (pt_cmpR (op_neE hr.units) (pv 3) (pe_lst pa_nil) (nomark _))
        (pss_one (ps_if (pt_cmpR op_eq (pe_ix ix_list (pv 3) (pe_un un_neg pe_int) (fun _ _ => rfl)) pe_int (nomark _))
        (pss_one (ps_expr (pe_bm0 PySem.F.plainAttrs_list PySem.F.slot_list_pop PySem.F.type_list_pop mt_pop (pv 3))))
        (pss_cons (ps_asg (pe_op op_sub (pe_ix ix_list (pv 3) (pe_un un_neg pe_int) (fun _ _ => rfl)) pe_int) (pg_sub (pv 3) (pe_un un_neg pe_int) set_list))
      (pss_cons (ps_set (i := 5) scFreeC.nd rfl (Or.inl rfl) (pe_cal cD hr rfl pass0 (pa_cons (pv 0) (pa_cons pe_int pa_nil))))
      (pss_cons (ps_if (PW.pt (pw_or (pt_cmpR op_gt (pe_callB call_len_seq rfl T.len PySem.boot_len (pa_cons (pv 3) pa_nil)) pe_int (nomark _)) (pw_or1 (pt_cmpR op_gt (pe_op op_add (pv 4) (pv 5)) (pv 1) (nomark _)))))
        (pss_one (ps_set (i := 5) scFreeC.nd rfl (Or.inl rfl) pe_int))
        pss_nil)
      (pss_cons (ps_if (pt_cmpR op_gt (pv 5) pe_int (nomark _))
        (pss_one (ps_expr (pe_bm PySem.F.plainAttrs_list PySem.F.slot_list_append PySem.F.type_list_append mt_append (pv 3) (pa_cons (pv 5) pa_nil))))
        pss_nil)
      (pss_cons (ps_expr (pe_bm PySem.F.plainAttrs_list PySem.F.slot_list_append PySem.F.type_list_append mt_append (pv 2) (pa_cons (pv 5) pa_nil)))
      (pss_one (ps_set (i := 4) scFreeC.nd rfl (Or.inl rfl) (pe_op op_add (pv 4) (pv 5))))))))))))
      (pss_one (ps_ret (pv 2))))))), ?_⟩
    refine ⟨_, rfl, a, 9, rfl, lf, by decide, b9, fun d H1 d0 dl s1 lf1 => ?_⟩
    refine ⟨_, _, rfl, rfl, (by show 1 ≤ sizeLine; decide), fun C hC => ?_⟩
    have Ca : C ≠ a := lf1.there hC
    refine ⟨_, rfl, C, _, 0, .int (1 + d), rfl, rfl, SqL.of upd_same, atI_nat (j := 0) rfl, (by show 1 ≤ sizeLine; decide), fun L hL => ?_⟩
    have LC : L ≠ C := fun z => by rw [z, upd_same] at hL; cases hL
    have hL1 : H1 L = none := by rw [upd_ne LC] at hL; exact hL
    have La : L ≠ a := lf1.there hL1
    refine ⟨_, rfl, C, _, 0, .int (1 + d), rfl, rfl, SqL.of (by rw [upd_ne LC.symm]; exact upd_same), atI_nat (j := 0) rfl, _, _, rfl, rfl, ?_⟩
    have nC : H C = none := s1.none hC Ca
    have nL : H L = none := s1.none hL1 La
    refine ⟨fun m σ H' => ∃ (cs ls : List Int) (t : Int) (v5 : Option V), σ = [some (.ref a), some (.int 60), some (.ref C), some (.ref L), some (.int t), v5] ∧ Lf H' a ∧ SmB a H H' ∧ H' C = some (.lst (cs.map V.int)) ∧ H' L = some (.lst (ls.map V.int)) ∧
      Gd cs 1 ls.sum ∧ (∃ c, cs[0]? = some c ∧ 1 ≤ c) ∧ (∀ x ∈ ls, 0 ≤ x) ∧ (cs.length : Int) + ls.sum = t ∧ t ≤ 60 ∧ ls.length ≤ cs.length ∧ m = 2 * (61 - cs.length) + ls.length,
      ⟨_, [1 + d], [1 + d], 1 + (1 + d), none, rfl, (lf1.own Ca).own La, (s1.own nC).own nL, by rw [upd_ne LC.symm]; exact upd_same, upd_same, by have := Gd.nil.root (c := 1 + d) (by omega) (by omega); simpa using this, ⟨_, rfl, by omega⟩, fun x hx => by rw [List.mem_singleton.mp hx]; omega, by simp, by omega, Nat.le_refl _, rfl⟩, ?_⟩
    rintro m σ H' ⟨cs, ls, t, v5, rfl, lf', sb, hC', hL', gd, ⟨c0, hc0, c1⟩, nn, tt, t60, lc, rfl⟩
    refine ⟨_, rfl, (by show 0 ≤ sizeLine; decide), fun z hz => ?_⟩
    have zC : C ≠ z := fun e => by rw [← e, hC'] at hz; cases hz
    have zL : L ≠ z := fun e => by rw [← e, hL'] at hz; cases hz
    have za : z ≠ a := lf'.there hz
    have nz : H z = none := sb.none hz za
    have hC2 : upd H' z (.lst []) C = some (.lst (cs.map V.int)) := by rw [upd_ne zC]; exact hC'
    have hL2 : upd H' z (.lst []) L = some (.lst (ls.map V.int)) := by rw [upd_ne zL]; exact hL'
    have lf2 : Lf (upd H' z (.lst [])) a := lf'.own za
    have sb2 : SmB a H (upd H' z (.lst [])) := sb.own nz
    have hz2 : upd H' z (.lst []) z = some (.lst []) := upd_same
    generalize upd H' z (.lst []) = H2 at hz2 hC2 hL2 lf2 sb2 ⊢
    refine ⟨L, z, _, rfl, rfl, SqL.of hL2, SqL.of hz2, _, rfl, ?_⟩
    rcases nil_or_snoc ls with rfl | ⟨i, x, rfl⟩
    · exact iteF ⟨_, rfl, k cs C H2 ⟨gd.done, ⟨c0, hc0, c1⟩, by simp at tt; omega, Nat.le_trans (nzc_le cs) (by simp at tt; omega)⟩ sb2 nC Ca hC2⟩
    have ene : (!((i ++ [x]).map V.int).isEmpty) = true := by simp
    have x0 := nn x (by simp)
    have i0 : 0 ≤ i.sum := sum_nn fun y hy => nn y (by simp [hy])
    have nni : ∀ y ∈ i, 0 ≤ y := fun y hy => nn y (by simp [hy])
    rw [sum_snoc] at tt gd
    rw [ene]
    refine iteT ⟨_, fun σ' H' h => h, ?_⟩
    refine ⟨_, rfl, _, rfl, L, _, -1, .int x, rfl, rfl, SqL.of hL2, last_at i x, rfl, _, rfl, ite2 (fun h0 => ?_) (fun h0 => ?_)⟩
    · have ex : x = 0 := by simpa [eqV] using h0
      subst ex
      refine ⟨_, rfl, .inl ⟨rfl, _, SqL.of hL2⟩, L, _, .int 0, rfl, rfl, hL2, by simp, ?_⟩
      have ed : ((i ++ [(0 : Int)]).map V.int).dropLast = i.map V.int := by simp
      rw [ed]
      refine ⟨_, ?_, cs, i, t, v5, rfl, lf2.own La, sb2.own nL, by rw [upd_ne LC.symm]; exact hC2, upd_same, by simpa using gd, ⟨c0, hc0, c1⟩, nni, by omega, t60, by simp at lc; omega, rfl⟩
      simp
    · have ex : x ≠ 0 := by simpa [eqV] using h0
      refine ⟨_, rfl, _, rfl, L, _, -1, .int x, rfl, rfl, SqL.of hL2, last_at i x, _, _, rfl, rfl, _, rfl, _, rfl, L, _, -1, i.length, rfl, rfl, hL2, last_ix i x, ?_⟩
      rw [last_set]
      have lf3 : Lf (upd H2 L (.lst ((i ++ [x - 1]).map V.int))) a := lf2.own La
      have sb3 : SmB a H (upd H2 L (.lst ((i ++ [x - 1]).map V.int))) := sb2.own nL
      have hC3 : upd H2 L (.lst ((i ++ [x - 1]).map V.int)) C = some (.lst (cs.map V.int)) := by rw [upd_ne LC.symm]; exact hC2
      have hL3 : upd H2 L (.lst ((i ++ [x - 1]).map V.int)) L = some (.lst ((i ++ [x - 1]).map V.int)) := upd_same
      generalize upd H2 L (.lst ((i ++ [x - 1]).map V.int)) = H3 at lf3 sb3 hC3 hL3 ⊢
      refine ⟨_, rfl, a, 10, rfl, lf3, by decide, b9, fun e H4 e0 el s4 lf4 => ?_⟩
      have hC4 := s4 _ _ Ca hC3
      have hL4 := s4 _ _ La hL3
      have sb4 : SmB a H H4 := sb3.trans s4
      dsimp only [gName]
      refine seq_nx (fun σ' H' => ∃ y : Int, σ' = [some (.ref a), some (.int 60), some (.ref C), some (.ref L), some (.int t), some (.int y)] ∧ H' = H4 ∧ 0 ≤ y ∧ y ≤ 9 ∧ t + y ≤ 60) ?_ (fun N hN => ?_)
      · rintro σ' H' ⟨y, rfl, rfl, y0, y9, ty⟩
        have cl : cs.length ≤ 59 := by omega
        have il : i.length + 1 ≤ cs.length := by simpa using lc
        have fin : ∀ (ls' : List Int) (H5 : Hp), Lf H5 a → SmB a H H5 → H5 C = some (.lst (cs.map V.int)) → H5 L = some (.lst (ls'.map V.int)) → ls'.sum = i.sum + x - 1 + y → (∀ u ∈ ls', 0 ≤ u) → ls'.length ≤ i.length + 2 →
            ∃ m', m' < 2 * (61 - cs.length) + (i ++ [x]).length ∧ ∃ (cs' ls'' : List Int) (t' : Int) (v5 : Option V), [some (.ref a), some (.int 60), some (.ref C), some (.ref L), some (.int (t + y)), some (.int y)] = [some (.ref a), some (.int 60), some (.ref C), some (.ref L), some (.int t'), v5] ∧ Lf (upd H5 C (.lst (cs.map V.int ++ [.int y]))) a ∧ SmB a H (upd H5 C (.lst (cs.map V.int ++ [.int y]))) ∧ upd H5 C (.lst (cs.map V.int ++ [.int y])) C = some (.lst (cs'.map V.int)) ∧ upd H5 C (.lst (cs.map V.int ++ [.int y])) L = some (.lst (ls''.map V.int)) ∧
              Gd cs' 1 ls''.sum ∧ (∃ c, cs'[0]? = some c ∧ 1 ≤ c) ∧ (∀ x ∈ ls'', 0 ≤ x) ∧ (cs'.length : Int) + ls''.sum = t' ∧ t' ≤ 60 ∧ ls''.length ≤ cs'.length ∧ m' = 2 * (61 - cs'.length) + ls''.length := by
          intro ls' H5 lf5 sb5 hC5 hL5 es nn5 l5
          refine ⟨_, ?_, cs ++ [y], ls', t + y, _, rfl, lf5.own Ca, sb5.own nC, by rw [List.map_append]; exact upd_same, by rw [upd_ne LC]; exact hL5, ?_, ⟨c0, ?_, c1⟩, nn5, ?_, ty, ?_, rfl⟩
          · simp
            omega
          · have := gd.part (c := y) (by omega) y0 (by omega)
            rw [es]
            have e1 : i.sum + x - 1 + y = i.sum + x - 1 + y := rfl
            exact this
          · rw [List.getElem?_append_left (List.getElem?_eq_some_iff.mp hc0).1]
            exact hc0
          · rw [es]
            simp
            omega
          · simp
            omega
        refine ⟨_, rfl, _, _, rfl, rfl, _, rfl, ite2 (fun h1 => ?_) (fun h1 => ?_)⟩
        · have h1' : y > 0 := of_decide_eq_true h1
          refine ⟨_, rfl, .inl ⟨rfl, _, SqL.of hL4⟩, _, rfl, L, _, _, rfl, rfl, hL4, small1000 (by simp; omega), ?_⟩
          have eL : (i ++ [x - 1]).map V.int ++ [V.int y] = (i ++ [x - 1] ++ [y]).map V.int := by simp
          rw [eL]
          refine ⟨_, rfl, .inl ⟨rfl, _, SqL.of (by rw [upd_ne LC.symm]; exact hC4)⟩, _, rfl, C, _, _, rfl, rfl, (by rw [upd_ne LC.symm]; exact hC4), small1000 (by simp; omega), ?_⟩
          refine ⟨_, rfl, _, rfl, _, _, rfl, rfl, ?_⟩
          refine fin (i ++ [x - 1] ++ [y]) _ (lf4.own La) (sb4.own nL) (by rw [upd_ne LC.symm]; exact hC4) upd_same (by simp; omega) (fun u hu => ?_) (by simp)
          simp at hu
          rcases hu with hu | hu | hu
          · exact nni u hu
          · omega
          · omega
        · have h1' : y = 0 := by
            have : ¬ y > 0 := fun z => h1 (decide_eq_true z)
            omega
          subst h1'
          refine ⟨_, rfl, .inl ⟨rfl, _, SqL.of hC4⟩, _, rfl, C, _, _, rfl, rfl, hC4, small1000 (by simp; omega), ?_⟩
          refine ⟨_, rfl, _, rfl, _, _, rfl, rfl, ?_⟩
          refine fin (i ++ [x - 1]) _ lf4 sb4 hC4 hL4 (by simp; omega) (fun u hu => ?_) (by simp)
          simp at hu
          rcases hu with hu | hu
          · exact nni u hu
          · omega
      · refine ⟨_, rfl, L, _, rfl, .inl (SqL.of hL4), _, _, rfl, rfl, _, rfl, ite2 (fun h1 => ?_) (fun h1 => ?_)⟩
        · exact iteT (hN _ _ ⟨0, rfl, rfl, by decide, by decide, by omega⟩)
        · refine ⟨_, rfl, _, rfl, _, _, rfl, rfl, _, rfl, _, _, rfl, rfl, _, rfl, ite2 (fun h2 => ?_) (fun h2 => ?_)⟩
          · exact hN _ _ ⟨0, rfl, rfl, by decide, by decide, by omega⟩
          · have h2' : ¬ t + e > 60 := fun z => h2 (decide_eq_true z)
            exact hN _ _ ⟨e, rfl, rfl, e0, by omega, by omega⟩
end
end K44

namespace K44
open PySem PySem.Spec PyProof.Rows L2 GM TM TR
theorem sm_own {H H1 : Hp} {p : Addr} {o : HO} (h : Same H H1) (n : H p = none) : Same H (upd H1 p o) := fun b u e => by
  have ne : b ≠ p := fun z => by rw [z, n] at e; cases e
  rw [upd_ne ne]
  exact h b u e
theorem sm_none {H H1 : Hp} {p : Addr} (h : Same H H1) (n : H1 p = none) : H p = none := by
  cases e : H p with
  | none => rfl
  | some o => rw [h _ _ e] at n; cases n
theorem at4 (a b c d : Int) {l : Int} (h0 : 0 ≤ l) (h1 : l < 4) : ∃ v, (v = a ∨ v = b ∨ v = c ∨ v = d) ∧ atI [V.int a, .int b, .int c, .int d] l = some (.int v) := by
  have : l = 0 ∨ l = 1 ∨ l = 2 ∨ l = 3 := by omega
  rcases this with rfl | rfl | rfl | rfl
  · exact ⟨a, by simp, rfl⟩
  · exact ⟨b, by simp, rfl⟩
  · exact ⟨c, by simp, rfl⟩
  · exact ⟨d, by simp, rfl⟩
theorem flat_rep (n : Nat) : (List.replicate n [V.int 0]).flatten = (List.replicate n (0 : Int)).map V.int := by
  induction n with
  | zero => rfl
  | succ n ih => rw [List.replicate_succ, List.flatten_cons, ih, List.replicate_succ]; rfl
def spCounts (K : PySem.W.Frag) : Sp := fun vs H Q _ => ∃ (a : Addr) (ns : List Int), vs = [.ref a, .int 3, .int 63] ∧ SqL K H a (ns.map V.int) ∧ ∀ (cs : List Int) p H', Cts cs → Same H H' → H p = none → H' p = some (.lst (cs.map V.int)) → Q (.ref p) H'
section
variable {P : Program} {w : World} {K : PySem.W.Frag} {mg : Str → Option Value} {base : Heap}
theorem scCounts : FnScope ["_law_script", "_law_start", "_law_last", "_law_lean", "_law_counts_here", "_law_lacking", "_law_mine", "_law_k", "_law_number", "_law_many"] ["_law_script", "_law_start", "_law_last"] (defScope sCounts) := ⟨rfl, rfl, rfl, by decide +kernel, rfl, by decide +kernel, by decide +kernel⟩
theorem ok_counts {f : Addr} {fd : FuncData} (F : Fun K "_law_counts" "_law_counts" sCounts f fd) (T : Txt mg) (cC : Cal P w K mg base CX0 2 "_law_cell_at" ["_law_script", "_law_k"] (spCell K)) (cM : Cal P w K mg base CX0 2 "_law_mixed" ["_law_cell", "_law_k"] spMixed)
    (cF : Cal P w K mg base CX0 2 "_law_free_counts" ["_law_left", "_law_most"] spFreeC) : FnOk P w K mg base CX0 3 f fd ["_law_script", "_law_start", "_law_last"] (spCounts K) := by
  refine F.ok scCounts (fun vs H Q E h => ?_) (fun cdv A outer s H vs Q E hr h => ?_)
  · obtain ⟨_, _, rfl, _⟩ := h
    rfl
  · obtain ⟨a, ns, rfl, ha, k⟩ := h
    refine ⟨_, (pss_cons (ps_if (pt_cmpR op_eq (pe_op op_mod (pe_cal cC hr rfl pass0 (pa_cons (pv 0) (pa_cons pe_int pa_nil))) pe_int) pe_int (nomark _))
        (pss_one (ps_ret (pe_cal cF hr rfl pass0 (pa_cons (pe_lst (pa_cons (pe_callB call_abs rfl T.abs' bt_abs (pa_cons (pe_cal cC hr rfl pass0 (pa_cons (pv 0) (pa_cons (pv 1) pa_nil))) pa_nil)) pa_nil)) (pa_cons pe_int pa_nil)))))
        pss_nil)
      (pss_cons (ps_set (i := 3) scCounts.nd rfl (Or.inl rfl) (pe_op op_mod (pe_cal cC hr rfl pass0 (pa_cons (pv 0) (pa_cons pe_int pa_nil))) pe_int))
      (pss_cons (ps_set (i := 4) scCounts.nd rfl (Or.inl rfl) (pe_lst pa_nil))
      (pss_cons (ps_set (i := 5) scCounts.nd rfl (Or.inl rfl) (pe_lst pa_nil))
      (pss_cons (ps_set (i := 6) scCounts.nd rfl (Or.inl rfl) pe_int)
      (pss_cons (ps_for PassesOwn.never rfl (pi_range2 rfl T.range (pa_cons (pv 1) (pa_cons (pe_callB (call_min2 rfl) rfl T.min' boot_min (pa_cons (pe_callB call_len_seq rfl T.len PySem.boot_len (pa_cons (pv 0) pa_nil)) (pa_cons (pv 2) pa_nil))) pa_nil))) (pg_name (i := 7) scCounts.nd rfl (Or.inl rfl))
        (pss_cons (ps_while PassesOwn.never (PW.pt (pw_and (pt_cmpR (op_neE hr.units) (pv 5) (pe_lst pa_nil) (nomark _)) (pw_and1 (pt_cmpR op_eq (pe_ix ix_list (pv 5) (pe_un un_neg pe_int) (fun _ _ => rfl)) pe_int (nomark _)))))
        (pss_one (ps_expr (pe_bm0 PySem.F.plainAttrs_list PySem.F.slot_list_pop PySem.F.type_list_pop mt_pop (pv 5)))))
      (pss_cons (ps_if (pt_cmpR (op_eqE hr.units) (pv 5) (pe_lst pa_nil) (nomark _))
        (pss_one (ps_set (i := 6) scCounts.nd rfl (Or.inl rfl) (pe_op op_add (pv 6) pe_int)))
        (pss_one (ps_asg (pe_op op_sub (pe_ix ix_list (pv 5) (pe_un un_neg pe_int) (fun _ _ => rfl)) pe_int) (pg_sub (pv 5) (pe_un un_neg pe_int) set_list))))
      (pss_cons (ps_set (i := 8) scCounts.nd rfl (Or.inl rfl) (pe_cal cM hr rfl pass0 (pa_cons (pe_ix ix_list (pv 0) (pv 7) (fun _ _ => rfl)) (pa_cons (pv 7) pa_nil))))
      (pss_cons (ps_set (i := 9) scCounts.nd rfl (Or.inl rfl) pe_int)
      (pss_cons (ps_if (PW.pt (pw_and (pt_cmpR op_lt (pe_callB call_len_seq rfl T.len PySem.boot_len (pa_cons (pv 5) pa_nil)) pe_int (nomark _)) (pw_and1 (pt_cmpR op_lt (pe_op op_mod (pv 8) pe_int) (pe_ix ix_list (pe_lst (pa_cons pe_int (pa_cons pe_int (pa_cons pe_int (pa_cons pe_int pa_nil))))) (pv 3) (fun _ _ => rfl)) (nomark _)))))
        (pss_cons (ps_set (i := 9) scCounts.nd rfl (Or.inl rfl) (pe_op op_add pe_int (pe_op op_mod (pe_op op_fdivB (pv 8) pe_int) (pe_ix ix_list (pe_lst (pa_cons pe_int (pa_cons pe_int (pa_cons pe_int (pa_cons pe_int pa_nil))))) (pv 3) (fun _ _ => rfl)))))
      (pss_one (ps_expr (pe_bm PySem.F.plainAttrs_list PySem.F.slot_list_append PySem.F.type_list_append mt_append (pv 5) (pa_cons (pv 9) pa_nil)))))
        pss_nil)
      (pss_one (ps_expr (pe_bm PySem.F.plainAttrs_list PySem.F.slot_list_append PySem.F.type_list_append mt_append (pv 4) (pa_cons (pv 9) pa_nil))))))))))
      (pss_cons (ps_if (pt_cmpR op_eq (pv 6) pe_int (nomark _))
        (pss_one (ps_ret (pe_lst (pa_cons pe_int (pa_cons pe_int pa_nil)))))
        pss_nil)
      (pss_one (ps_ret (pe_op op_cat (pe_op op_cat (pe_lst (pa_cons (pv 6) pa_nil)) (pv 4)) (pe_op op_rep (pe_lst (pa_cons pe_int pa_nil)) (pe_callB (call_sum rfl) rfl T.sum' boot_sum (pa_cons (pv 5) pa_nil))))))))))))), ?_⟩
    refine ⟨_, rfl, a, ns, 0, rfl, ha, by decide, fun c0 => ⟨_, _, rfl, rfl, (by show (0 : Int) < 2; decide), rfl, _, rfl, ite2 (fun _ => ?_) (fun _ => ?_)⟩⟩
    · refine ⟨_, rfl, _, rfl, a, ns, 3, rfl, ha, by decide, fun c3 => ⟨c3, rfl, (by show 1 ≤ sizeLine; decide), fun z hz => ⟨z, rfl, ⟨_, upd_same, by split <;> omega⟩, fun cs p H' ct sb hp pz hp' => ?_⟩⟩⟩
      refine k cs p H' ct (fun b o e => sb b o (ne_of_none e hz) (by rw [upd_ne (ne_of_none e hz)]; exact e)) ?_ hp'
      rw [upd_ne pz] at hp
      exact hp
    refine ⟨_, rfl, a, ns, 2, rfl, ha, by decide, fun c2 => ⟨_, _, rfl, rfl, (by show (0 : Int) < 4; decide), ?_⟩⟩
    have le := emod_in c2 (m := 4) (by decide)
    obtain ⟨lean, el⟩ : ∃ l, l = c2 % 4 := ⟨_, rfl⟩
    rw [← el] at le
    refine ⟨(by show 0 ≤ sizeLine; decide), fun C hC => ⟨(by show 0 ≤ sizeLine; decide), fun L hL => ?_⟩⟩
    have LC : L ≠ C := fun z => by rw [z, upd_same] at hL; cases hL
    have nL : H L = none := by rw [upd_ne LC] at hL; exact hL
    have sm0 : Same H (upd (upd H C (.lst [])) L (.lst [])) := (Same.upd hC).trans (Same.upd hL)
    refine ⟨_, rfl, _, rfl, a, _, rfl, .inl (sm0.seq ha), _, rfl, _, _, rfl, 3, _, rfl, ⟨by decide, by decide, by split <;> omega, by split <;> omega⟩, ?_⟩
    have hn : ((if (63 : Int) < ((ns.map V.int).length : Nat) then (63 : Int) else ((ns.map V.int).length : Nat)) - 3).toNat ≤ 60 ∧ ∀ i, i < ((if (63 : Int) < ((ns.map V.int).length : Nat) then (63 : Int) else ((ns.map V.int).length : Nat)) - 3).toNat → 3 + i < ns.length := by
      rw [List.length_map]
      split
      · exact ⟨by omega, fun i hi => by omega⟩
      · exact ⟨by omega, fun i hi => by omega⟩
    generalize ((if (63 : Int) < ((ns.map V.int).length : Nat) then (63 : Int) else ((ns.map V.int).length : Nat)) - 3).toNat = n at hn ⊢
    refine for_range (fun i σ H' => ∃ (cs ls : List Int) (mi : Int) (v7 v8 v9 : Option V), σ = [some (.ref a), some (.int 3), some (.int 63), some (.int lean), some (.ref C), some (.ref L), some (.int mi), v7, v8, v9] ∧ Same H H' ∧ H' C = some (.lst (cs.map V.int)) ∧ H' L = some (.lst (ls.map V.int)) ∧
      Gd cs mi ls.sum ∧ (∀ x ∈ ls, 0 ≤ x ∧ x ≤ 4) ∧ ls.length ≤ 8 ∧ cs.length = i ∧ 0 ≤ mi ∧ mi ≤ i) ⟨[], [], 0, none, none, none, by rw [el]; rfl, sm0, by rw [upd_ne LC.symm]; exact upd_same, upd_same, Gd.nil, (fun _ h => nomatch h), by decide, rfl, by decide, by decide⟩ ?_ ?_
    · rintro i σ H1 hi ⟨cs, ls, mi, v7, v8, v9, rfl, sm, hC1, hL1, gd, nn, l8, cl, m0, mi1⟩
      dsimp only [gName]
      refine seq_nx (fun σ' H' => ∃ ls' : List Int, σ' = [some (.ref a), some (.int 3), some (.int 63), some (.int lean), some (.ref C), some (.ref L), some (.int mi), some (.int (3 + i)), v8, v9] ∧ Same H H' ∧ H' C = some (.lst (cs.map V.int)) ∧ H' L = some (.lst (ls'.map V.int)) ∧ ls'.sum = ls.sum ∧ (∀ x ∈ ls', 0 ≤ x ∧ x ≤ 4) ∧ ls'.length ≤ 8 ∧ (ls' = [] ∨ ∃ j x, ls' = j ++ [x] ∧ 1 ≤ x)) ?_ (fun N hN => ?_)
      · rintro σ' H2 ⟨ls', rfl, sm2, hC2, hL2, es, nn2, l82, alt⟩
        refine seq_nx (fun σ' H' => ∃ (ls2 : List Int) (m2 : Int), σ' = [some (.ref a), some (.int 3), some (.int 63), some (.int lean), some (.ref C), some (.ref L), some (.int m2), some (.int (3 + i)), v8, v9] ∧ Same H H' ∧ H' C = some (.lst (cs.map V.int)) ∧ H' L = some (.lst (ls2.map V.int)) ∧ (∀ c : Int, 0 ≤ c → c < 64 → Gd (cs ++ [c]) m2 (ls2.sum + c)) ∧ (∀ x ∈ ls2, 0 ≤ x ∧ x ≤ 4) ∧ ls2.length ≤ 8 ∧ 0 ≤ m2 ∧ m2 ≤ i + 1) ?_ (fun N hN => ?_)
        · rintro σ' H3 ⟨ls2, m2, rfl, sm3, hC3, hL3, gd3, nn3, l83, m20, m21⟩
          obtain ⟨ck, hck⟩ : ∃ c, ns[3 + i]? = some c := ⟨_, List.getElem?_eq_getElem (hn.2 i hi)⟩
          refine ⟨_, rfl, _, rfl, a, _, _, .int ck, rfl, rfl, sm3.seq ha, (by have e : (3 : Int) + (i : Nat) = ((3 + i : Nat) : Int) := by omega
                                                                              rw [e]; exact atI_nat (by rw [List.getElem?_map, hck]; rfl)), _, rfl, ck, _, rfl, by omega, by omega, fun u u0 ul => ?_⟩
          have bu : Bt 64 u := bt_lt 64 u0 ul
          dsimp only [gName]
          refine seq_nx2 (fun σ' H' => ∃ (ls4 : List Int) (y : Int), σ' = [some (.ref a), some (.int 3), some (.int 63), some (.int lean), some (.ref C), some (.ref L), some (.int m2), some (.int (3 + i)), some (.int u), some (.int y)] ∧ Same H H' ∧ H' C = some (.lst (cs.map V.int)) ∧ H' L = some (.lst (ls4.map V.int)) ∧ ls4.sum = ls2.sum + y ∧ (∀ x ∈ ls4, 0 ≤ x ∧ x ≤ 4) ∧ ls4.length ≤ 8 ∧ 0 ≤ y ∧ y ≤ 4) ?_ (fun N hN => ?_)
          · rintro σ' H4 ⟨ls4, y, rfl, sm4, hC4, hL4, es4, nn4, l84, y0, y4⟩
            refine ⟨_, rfl, .inl ⟨rfl, _, SqL.of hC4⟩, _, rfl, C, _, _, rfl, rfl, hC4, small1000 (by simp; omega), ?_⟩
            have eC : cs.map V.int ++ [V.int y] = (cs ++ [y]).map V.int := by simp
            rw [eC]
            refine ⟨cs ++ [y], ls4, m2, _, _, _, rfl, sm_own sm4 hC, upd_same, by rw [upd_ne LC]; exact hL4, ?_, nn4, l84, by simp [cl], m20, by omega⟩
            rw [es4]
            exact gd3 y y0 (by omega)
          · have no : ∀ H5, Same H H5 → H5 C = some (.lst (cs.map V.int)) → H5 L = some (.lst (ls2.map V.int)) → N [some (.ref a), some (.int 3), some (.int 63), some (.int lean), some (.ref C), some (.ref L), some (.int m2), some (.int (3 + i)), some (.int u), some (.int 0)] H5 :=
              fun H5 a1 a2 a3 => hN _ _ ⟨ls2, 0, rfl, a1, a2, a3, by omega, nn3, l83, by decide, by decide⟩
            obtain ⟨g1, _, hg1⟩ := at4 5 6 4 7 le.1 le.2
            obtain ⟨g2, hg2', hg2⟩ := at4 2 4 3 2 le.1 le.2
            refine ⟨_, rfl, L, _, rfl, .inl (SqL.of hL3), _, _, rfl, rfl, _, rfl, ite2 (fun h1 => ?_) (fun h1 => iteF (no _ sm3 hC3 hL3))⟩
            have h1' : ((ls2.map V.int).length : Int) < 8 := of_decide_eq_true h1
            rw [List.length_map] at h1'
            refine ⟨_, rfl, _, _, rfl, rfl, (by show (0 : Int) < 8; decide), (by show 4 ≤ sizeLine; decide), fun z hz => ⟨_, rfl, z, _, lean, .int g1, rfl, rfl, SqL.of upd_same, hg1, _, _, rfl, rfl, _, rfl, ?_⟩⟩
            have nz : H z = none := sm_none sm3 hz
            have zC : C ≠ z := fun e => by rw [← e, hC3] at hz; cases hz
            have zL : L ≠ z := fun e => by rw [← e, hL3] at hz; cases hz
            have sm4 := sm_own (o := HO.lst [.int 5, .int 6, .int 4, .int 7]) sm3 nz
            have hC4 : upd H3 z (.lst [.int 5, .int 6, .int 4, .int 7]) C = some (.lst (cs.map V.int)) := by rw [upd_ne zC]; exact hC3
            have hL4 : upd H3 z (.lst [.int 5, .int 6, .int 4, .int 7]) L = some (.lst (ls2.map V.int)) := by rw [upd_ne zL]; exact hL3
            refine ite2 (fun h2 => ?_) (fun h2 => no _ sm4 hC4 hL4)
            generalize upd H3 z (.lst [.int 5, .int 6, .int 4, .int 7]) = H4 at sm4 hC4 hL4 ⊢
            refine ⟨_, rfl, _, _, rfl, rfl, ⟨by decide, b9⟩, (by show 4 ≤ sizeLine; decide), fun z2 hz2 => ⟨_, rfl, z2, _, lean, .int g2, rfl, rfl, SqL.of upd_same, hg2, _, _, rfl, rfl, (by show 0 < g2; omega), _, _, rfl, rfl, ?_⟩⟩
            have nz2 : H z2 = none := sm_none sm4 hz2
            have zC2 : C ≠ z2 := fun e => by rw [← e, hC4] at hz2; cases hz2
            have zL2 : L ≠ z2 := fun e => by rw [← e, hL4] at hz2; cases hz2
            have eg := emod_in (u / 8) (show 0 < g2 by omega)
            refine ⟨_, rfl, .inl ⟨rfl, _, SqL.of (by rw [upd_ne zL2]; exact hL4)⟩, _, rfl, L, _, _, rfl, rfl, (by rw [upd_ne zL2]; exact hL4), small1000 (by simp; omega), ?_⟩
            have eL : ls2.map V.int ++ [V.int (1 + u / 8 % g2)] = (ls2 ++ [1 + u / 8 % g2]).map V.int := by simp
            rw [eL]
            refine hN _ _ ⟨ls2 ++ [1 + u / 8 % g2], 1 + u / 8 % g2, rfl, sm_own (sm_own sm4 nz2) nL, by rw [upd_ne LC.symm, upd_ne zC2]; exact hC4, upd_same, by simp, fun x hx => ?_, by simp; omega, by omega, by omega⟩
            rcases List.mem_append.mp hx with h | h
            · exact nn3 x h
            · have := List.mem_singleton.mp h
              omega
        · refine ⟨_, rfl, (by show 0 ≤ sizeLine; decide), fun z hz => ?_⟩
          have nz : H z = none := sm_none sm2 hz
          have zC : C ≠ z := fun e => by rw [← e, hC2] at hz; cases hz
          have zL : L ≠ z := fun e => by rw [← e, hL2] at hz; cases hz
          have sm3 := sm_own (o := HO.lst []) sm2 nz
          have hC3 : upd H2 z (.lst []) C = some (.lst (cs.map V.int)) := by rw [upd_ne zC]; exact hC2
          have hL3 : upd H2 z (.lst []) L = some (.lst (ls'.map V.int)) := by rw [upd_ne zL]; exact hL2
          refine ⟨L, z, _, rfl, rfl, SqL.of hL3, SqL.of upd_same, _, rfl, ?_⟩
          generalize upd H2 z (.lst []) = H3 at sm3 hC3 hL3 ⊢
          rcases alt with rfl | ⟨j, x, rfl, x1⟩
          · refine iteT ⟨_, rfl, _, _, rfl, rfl, ?_⟩
            refine hN _ _ ⟨[], mi + 1, rfl, sm3, hC3, hL3, fun c c0 c1 => ?_, (fun _ h => nomatch h), by decide, by omega, by omega⟩
            have e0 : ls.sum = 0 := es.symm
            rw [e0] at gd
            have := gd.root c0 c1
            simpa using this
          · have ene : ((j ++ [x]).map V.int).isEmpty = false := by simp
            rw [ene]
            refine iteF ⟨_, rfl, _, rfl, L, _, -1, .int x, rfl, rfl, SqL.of hL3, last_at j x, _, _, rfl, rfl, _, rfl, _, rfl, L, _, -1, j.length, rfl, rfl, hL3, last_ix j x, ?_⟩
            rw [last_set]
            have nnj : ∀ y ∈ j, 0 ≤ y := fun y hy => (nn2 y (by simp [hy])).1
            have j0 := sum_nn nnj
            rw [sum_snoc] at es
            refine hN _ _ ⟨j ++ [x - 1], mi, rfl, sm_own sm3 nL, by rw [upd_ne LC.symm]; exact hC3, upd_same, fun c c0 c1 => ?_, fun y hy => ?_, by simpa using l82, m0, by omega⟩
            · have := gd.part (c := c) (by omega) c0 c1
              have e : (j ++ [x - 1]).sum + c = ls.sum - 1 + c := by rw [sum_snoc]; omega
              rw [e]
              exact this
            · rcases List.mem_append.mp hy with h | h
              · exact nn2 y (by simp [h])
              · have := List.mem_singleton.mp h
                have := nn2 x (by simp)
                omega
      · refine ⟨fun m σ' H' => ∃ ls' : List Int, σ' = [some (.ref a), some (.int 3), some (.int 63), some (.int lean), some (.ref C), some (.ref L), some (.int mi), some (.int (3 + i)), v8, v9] ∧ Same H H' ∧ H' C = some (.lst (cs.map V.int)) ∧ H' L = some (.lst (ls'.map V.int)) ∧ ls'.sum = ls.sum ∧ (∀ x ∈ ls', 0 ≤ x ∧ x ≤ 4) ∧ ls'.length ≤ 8 ∧ m = ls'.length,
          ⟨_, ls, rfl, sm, hC1, hL1, rfl, nn, l8, rfl⟩, ?_⟩
        rintro m σ' H2 ⟨ls', rfl, sm2, hC2, hL2, es, nn2, l82, rfl⟩
        refine ⟨_, rfl, (by show 0 ≤ sizeLine; decide), fun z hz => ?_⟩
        have nz : H z = none := sm_none sm2 hz
        have zC : C ≠ z := fun e => by rw [← e, hC2] at hz; cases hz
        have zL : L ≠ z := fun e => by rw [← e, hL2] at hz; cases hz
        have sm3 := sm_own (o := HO.lst []) sm2 nz
        have hC3 : upd H2 z (.lst []) C = some (.lst (cs.map V.int)) := by rw [upd_ne zC]; exact hC2
        have hL3 : upd H2 z (.lst []) L = some (.lst (ls'.map V.int)) := by rw [upd_ne zL]; exact hL2
        refine ⟨L, z, _, rfl, rfl, SqL.of hL3, SqL.of upd_same, _, rfl, ?_⟩
        generalize upd H2 z (.lst []) = H3 at sm3 hC3 hL3 ⊢
        rcases nil_or_snoc ls' with rfl | ⟨j, x, rfl⟩
        · exact iteF (iteF (hN _ _ ⟨[], rfl, sm3, hC3, hL3, es, nn2, l82, .inl rfl⟩))
        · have ene : (!((j ++ [x]).map V.int).isEmpty) = true := by simp
          rw [ene]
          refine iteT ⟨_, rfl, _, rfl, L, _, -1, .int x, rfl, rfl, SqL.of hL3, last_at j x, rfl, _, rfl, ite2 (fun h0 => ?_) (fun h0 => ?_)⟩
          · have ex : x = 0 := by simpa [eqV] using h0
            subst ex
            refine ⟨_, fun σ' H' h => h, _, rfl, .inl ⟨rfl, _, SqL.of hL3⟩, L, _, .int 0, rfl, rfl, hL3, by simp, ?_⟩
            have ed : ((j ++ [(0 : Int)]).map V.int).dropLast = j.map V.int := by simp
            rw [ed]
            exact ⟨j.length, by simp, j, rfl, sm_own sm3 nL, by rw [upd_ne LC.symm]; exact hC3, upd_same, by rw [← es]; simp, fun y hy => nn2 y (by simp [hy]), by simp at l82; omega, rfl⟩
          · have ex : x ≠ 0 := by simpa [eqV] using h0
            have := (nn2 x (by simp)).1
            exact hN _ _ ⟨j ++ [x], rfl, sm3, hC3, hL3, es, nn2, l82, .inr ⟨j, x, rfl, by omega⟩⟩
    · rintro σ H1 ⟨cs, ls, mi, v7, v8, v9, rfl, sm, hC1, hL1, gd, nn, l8, cl, m0, mi1⟩
      refine ⟨_, rfl, rfl, _, rfl, ite2 (fun h0 => ?_) (fun h0 => ?_)⟩
      · refine ⟨(by show 2 ≤ sizeLine; decide), fun z hz => ?_⟩
        exact k [1, 0] z _ ⟨⟨⟨trivial, by decide, by decide, by decide⟩, by decide, by decide, by decide⟩, ⟨1, rfl, by decide⟩, by decide, by decide⟩ (sm_own sm (sm_none sm hz)) (sm_none sm hz) upd_same
      · have m1 : mi ≠ 0 := by simpa [eqV] using h0
        have s0 := sum_nn fun x hx => (nn x hx).1
        have s4 := sum_le fun x hx => (nn x hx).2
        refine ⟨_, rfl, (by show 1 ≤ sizeLine; decide), fun z hz => ?_⟩
        have zC : C ≠ z := fun e => by rw [← e, hC1] at hz; cases hz
        have zL : L ≠ z := fun e => by rw [← e, hL1] at hz; cases hz
        refine ⟨_, rfl, z, C, _, _, rfl, rfl, upd_same, (by rw [upd_ne zC]; exact hC1), sz1000 (by simp; omega), fun p hp => ?_⟩
        have pz : p ≠ z := fun e => by rw [e, upd_same] at hp; cases hp
        have hp1 : H1 p = none := by rw [upd_ne pz] at hp; exact hp
        have pL : L ≠ p := fun e => by rw [← e, hL1] at hp1; cases hp1
        refine ⟨(by show 1 ≤ sizeLine; decide), fun z2 hz2 => ?_⟩
        have z2p : p ≠ z2 := fun e => by rw [← e, upd_same] at hz2; cases hz2
        have hz2' : upd H1 z (.lst [.int mi]) z2 = none := by rw [upd_ne z2p.symm] at hz2; exact hz2
        have z2z : z2 ≠ z := fun e => by rw [e, upd_same] at hz2'; cases hz2'
        have hz21 : H1 z2 = none := by rw [upd_ne z2z] at hz2'; exact hz2'
        have z2L : L ≠ z2 := fun e => by rw [← e, hL1] at hz21; cases hz21
        refine ⟨_, rfl, L, ls, rfl, SqL.of (by rw [upd_ne z2L, upd_ne pL, upd_ne zL]; exact hL1), ?_⟩
        refine ⟨z2, _, _, rfl, rfl, upd_same, by omega, by omega, (by show 1 * ls.sum.toNat ≤ sizeLine; exact sz1000 (by omega)), fun p2 hp2 => ?_⟩
        have p2z2 : p2 ≠ z2 := fun e => by rw [e, upd_same] at hp2; cases hp2
        have hp2' := hp2
        rw [upd_ne p2z2] at hp2'
        have p2p : p2 ≠ p := fun e => by rw [e, upd_same] at hp2'; cases hp2'
        rw [upd_ne p2p] at hp2'
        have p2z : p2 ≠ z := fun e => by rw [e, upd_same] at hp2'; cases hp2'
        rw [upd_ne p2z] at hp2'
        refine ⟨p, p2, _, _, rfl, rfl, (by rw [upd_ne p2p.symm, upd_ne z2p]; exact upd_same), upd_same, ?_, fun r hr' => ?_⟩
        · rw [flat_rep]
          simp
          exact sz1000 (by omega)
        · rw [flat_rep] at hr' ⊢
          have e : [V.int mi] ++ cs.map V.int ++ (List.replicate ls.sum.toNat (0 : Int)).map V.int = (mi :: (cs ++ List.replicate ls.sum.toNat 0)).map V.int := by simp
          rw [e]
          have smA : Same H (upd (upd (upd (upd H1 z (.lst [.int mi])) p (.lst ([V.int mi] ++ cs.map V.int))) z2 (.lst [.int 0])) p2 (.lst ((List.replicate ls.sum.toNat (0 : Int)).map V.int))) :=
            sm_own (sm_own (sm_own (sm_own sm (sm_none sm hz)) (sm_none sm hp1)) (sm_none sm hz21)) (sm_none sm hp2')
          have es : ((ls.sum.toNat : Nat) : Int) = ls.sum := by omega
          refine k _ r _ ⟨Gd.whole (l := ls.sum.toNat) (by rw [es]; exact gd) m0 (by omega), ⟨mi, rfl, by omega⟩, ?_, ?_⟩ (sm_own smA (sm_none smA hr')) (sm_none smA hr') upd_same
          · simp
            omega
          · have h1 : nzc (mi :: (cs ++ List.replicate ls.sum.toNat 0)) ≤ 1 + nzc (cs ++ List.replicate ls.sum.toNat 0) := by
              rw [nzc_ne _ m1]
              omega
            rw [nzc_app, nzc_zeros] at h1
            have := nzc_le cs
            omega
end
end K44

namespace K44
open PySem PySem.Spec PyProof.Rows L2 GM TM TR
def spAdd : Sp := fun vs H Q _ => ∃ (m1 m2 : Addr) (n1 n2 : Nat), vs = [.ref m1, .ref m2] ∧ Am H m1 n1 ∧ Am H m2 n2 ∧ 1 ≤ n1 ∧ 1 ≤ n2 ∧ n1 + n2 ≤ 140 ∧ ∀ p H', Same H H' → H p = none → Am H' p (n1 + n2) → Q (.ref p) H'
def spTotal : Sp := fun vs H Q _ => ∃ (q : Addr) (cs : List Pt), vs = [.ref q] ∧ H q = some (.tup (cs.map (·.1))) ∧ (∃ n : Nat, ∀ c ∈ cs, Tr H n c.1 c.2.1 c.2.2) ∧ 1 + szs cs ≤ 140 ∧ ∀ p H', Same H H' → H p = none → Am H' p (1 + szs cs) → Q (.ref p) H'
section
variable {P : Program} {w : World} {K : PySem.W.Frag} {mg : Str → Option Value} {base : Heap}
theorem scAdd : FnScope ["_law_one", "_law_other"] ["_law_one", "_law_other"] (defScope sAdd) := ⟨rfl, rfl, rfl, by decide +kernel, rfl, by decide +kernel, by decide +kernel⟩
theorem ok_add {f : Addr} {fd : FuncData} (F : Fun K "_law_add" "_law_add" sAdd f fd) (cL : Cal P w K mg base CX0 1 "_law_lowest" ["_law_top", "_law_bottom"] spLowest) : FnOk P w K mg base CX0 2 f fd ["_law_one", "_law_other"] spAdd := by
  refine F.ok scAdd (fun vs H Q E h => ?_) (fun cdv A outer s H vs Q E hr h => ?_)
  · obtain ⟨_, _, _, _, rfl, _⟩ := h
    rfl
  · obtain ⟨m1, m2, n1, n2, rfl, ⟨t1, b1, h1, t10, b11, st1, sb1⟩, ⟨t2, b2, h2, t20, b21, st2, sb2⟩, l1, l2, l, k⟩ := h
    refine ⟨_, (pss_one (ps_ret (pe_cal cL hr rfl pass0 (pa_cons (pe_op op_add (pe_op op_mulB (pit 0 0) (pit 1 1)) (pe_op op_mulB (pit 1 0) (pit 0 1))) (pa_cons (pe_op op_mulB (pit 0 1) (pit 1 1)) pa_nil))))), ?_⟩
    have w1 : ∀ {x : Int}, Bt (64 * n1 - 1) x → Bt 1000000 x := fun h => h.mono (by omega)
    have w2 : ∀ {x : Int}, Bt (64 * n2 - 1) x → Bt 1000000 x := fun h => h.mono (by omega)
    have S1 := SqT.of (K := K) h1
    have S2 := SqT.of (K := K) h2
    refine ⟨m1, _, _, rfl, S1, rfl, m2, _, _, rfl, S2, rfl, _, _, rfl, rfl, ⟨w1 st1, w2 sb2⟩, m2, _, _, rfl, S2, rfl, m1, _, _, rfl, S1, rfl, _, _, rfl, rfl, ⟨w2 st2, w1 sb1⟩, _, _, rfl, rfl, m1, _, _, rfl, S1, rfl, m2, _, _, rfl, S2, rfl, _, _, rfl, rfl, ⟨w1 sb1, w2 sb2⟩, ?_⟩
    have p1 : 0 ≤ t1 * b2 := Int.mul_nonneg t10 (by omega)
    have p2 : 0 ≤ t2 * b1 := Int.mul_nonneg t20 (by omega)
    have pb : 1 ≤ b1 * b2 := Int.mul_pos (by omega) (by omega)
    have sb : Bt (64 * (n1 + n2) - 1) (b1 * b2) := (sb1.mul sb2).mono (by omega)
    have e1 : Bt (64 * (n1 + n2) - 2) (t1 * b2) := (st1.mul sb2).mono (by omega)
    have e2 : Bt (64 * (n1 + n2) - 2) (t2 * b1) := (st2.mul sb1).mono (by omega)
    have st : Bt (64 * (n1 + n2) - 1) (t1 * b2 + t2 * b1) := (e1.add e2).mono (by omega)
    refine ⟨_, _, rfl, by omega, pb, sb.mono (by omega), fun p H' sm np hp => k p H' sm np ⟨_, _, hp, ?_, ?_, ?_, ?_⟩⟩
    · exact Int.ediv_nonneg (by omega) (Int.le_of_lt (G_pos (by omega)))
    · have g := G_pos (a := t1 * b2 + t2 * b1) (b := b1 * b2) (by omega)
      exact (Int.le_ediv_iff_mul_le g).mpr (by have := G_le_r (a := t1 * b2 + t2 * b1) (b := b1 * b2) (by omega); omega)
    · exact st.div (by omega)
    · exact sb.div (by omega)
theorem scTotal : FnScope ["_law_parts", "_law_found", "_law_part"] ["_law_parts"] (defScope sTotal) := ⟨rfl, rfl, rfl, by decide +kernel, rfl, by decide +kernel, by decide +kernel⟩
theorem ok_total {f : Addr} {fd : FuncData} (F : Fun K "_law_total" "_law_total" sTotal f fd) (cA : Cal P w K mg base CX0 2 "_law_add" ["_law_one", "_law_other"] spAdd) : FnOk P w K mg base CX0 3 f fd ["_law_parts"] spTotal := by
  refine F.ok scTotal (fun vs H Q E h => ?_) (fun cdv A outer s H vs Q E hr h => ?_)
  · obtain ⟨_, _, rfl, _⟩ := h
    rfl
  · obtain ⟨q, cs, rfl, hq, ⟨nn, hc⟩, l, k⟩ := h
    refine ⟨_, (pss_cons (ps_set (i := 1) scTotal.nd rfl (Or.inl rfl) (pe_tup (pa_cons pe_int (pa_cons pe_int pa_nil))))
      (pss_cons (ps_for PassesOwn.never rfl (pi_tup (pv 0)) (pg_name (i := 2) scTotal.nd rfl (Or.inl rfl))
        (pss_one (ps_set (i := 1) scTotal.nd rfl (Or.inl rfl) (pe_cal cA hr rfl pass0 (pa_cons (pv 1) (pa_cons (pit 2 2) pa_nil))))))
      (pss_one (ps_ret (pv 1))))), ?_⟩
    refine ⟨(by show 2 ≤ sizeLine; decide), fun z hz => ?_⟩
    have sm0 : Same H (upd H z (.tup [.int 0, .int 1])) := Same.upd hz
    refine ⟨_, rfl, q, rfl, ⟨_, SqT.of (sm0 _ _ hq)⟩, ?_⟩
    have sl : ∀ i, szs (cs.take i) ≤ szs cs := fun i => by
      have := szs_append (cs.take i) (cs.drop i)
      rw [List.take_append_drop] at this
      omega
    refine for_tup (fun i σ H' => ∃ (m : Addr) (v2 : Option V), σ = [some (.ref q), some (.ref m), v2] ∧ Same H H' ∧ H m = none ∧ Am H' m (1 + szs (cs.take i))) ⟨z, none, rfl, sm0, hz, ⟨0, 1, upd_same, by decide, by decide, ?_, ?_⟩⟩ (fun i σ H' _ ⟨_, _, _, sm, _⟩ => SqT.of (sm _ _ hq)) ?_ ?_
    · exact bt_lt 63 (c := 1) (by decide) (by decide)
    · exact bt_lt 63 (c := 2) (by decide) (by decide)
    · rintro i v σ H1 hv ⟨m, v2, rfl, sm, hm, am⟩
      rw [List.getElem?_map] at hv
      cases e : cs[i]? with
      | none => rw [e] at hv; cases hv
      | some c =>
        rw [e] at hv
        cases hv
        have ht := (hc c (List.mem_of_getElem? e)).keep sm.tk
        have es : szs (cs.take (i + 1)) = szs (cs.take i) + c.2.1 := by
          rw [List.take_add_one, e, szs_append]
          show _ + szs [c] = _
          rw [szs_cons]
          rfl
        have s1 := ht.size
        have := sl (i + 1)
        obtain ⟨p, a, y, x, xs, ev, hp, amc⟩ := ht.shows
        refine ⟨_, rfl, p, _, _, (by show some (some c.1) = _; rw [ev]), SqT.of hp, rfl, m, a, _, _, rfl, am, amc, by omega, s1, by omega, fun r H2 s2 hr2 am2 => ?_⟩
        refine ⟨r, _, rfl, sm.trans s2, sm_none sm hr2, ?_⟩
        rw [es]
        have e3 : 1 + szs (cs.take i) + c.2.1 = 1 + (szs (cs.take i) + c.2.1) := by omega
        rw [← e3]
        exact am2
    · rintro σ H1 ⟨m, v2, rfl, sm, hm, am⟩
      rw [List.length_map, List.take_length] at am
      exact ⟨_, rfl, k m H1 sm hm am⟩
end
end K44

namespace K44
open PySem PySem.Spec PyProof.Rows L2 GM TM TR
theorem sb_tk {a : Addr} {H H' : Hp} (s : SmB a H H') (l : Lf H a) : Tk H H' := by
  obtain ⟨n, e, _⟩ := l
  exact Bx.tk s e
def spFreeR : Sp := fun vs H Q _ => ∃ (a ws c : Addr) (wr : List Str) (cs : List Int), vs = [.ref a, .ref ws, .ref c] ∧ Lf H a ∧ H ws = some (.lst (wr.map V.str)) ∧ wr.length = 6 ∧ H c = some (.lst (cs.map V.int)) ∧ ws ≠ a ∧ c ≠ a ∧ Cts cs ∧
  ∀ v n d H', SmB a H H' → Tr H' 62 v n d → n ≤ 100 → 1 ≤ d → Q v H'
def spRoot (K : PySem.W.Frag) : Sp := fun vs H Q _ => ∃ (a ws c : Addr) (ns : List Int) (wr : List Str) (cs : List Int), vs = [.ref a, .ref ws, .ref c] ∧ SqL K H a (ns.map V.int) ∧ H ws = some (.lst (wr.map V.str)) ∧ wr.length = 6 ∧ H c = some (.lst (cs.map V.int)) ∧ Cts cs ∧
  ∀ v n d H', Same H H' → Tr H' 62 v n d → n ≤ 100 → 1 ≤ d → Q v H'
theorem pile_end {H : Hp} {cs : List Int} {pl : List Pt} (h : Pile H cs cs.length pl) (ct : Cts cs) : ∃ (v : Pt) (d : Int), Tr H 62 v.1 v.2.1 d ∧ v.2.1 ≤ 100 ∧ 1 ≤ d ∧ atI (pl.map (·.1)) (-1) = some v.1 := by
  obtain ⟨c0, hc0, c1⟩ := ct.hd
  have l1 : 1 ≤ cs.length := (List.getElem?_eq_some_iff.mp hc0).1
  obtain ⟨pl', q, rfl, hq⟩ := h.hd l1
  have d1 := hq c0 (by rw [Nat.sub_self]; exact hc0) c1
  have sz := h.sz
  have := szs_mem (cs := pl' ++ [q]) (c := q) (by simp)
  have := ct.ln
  have nz := ct.nz
  have tq := h.tr q (by simp)
  rw [Nat.sub_self, List.drop_zero] at tq
  exact ⟨q, q.2.2, tq.up (by omega), by omega, d1, by rw [List.map_append]; exact atI_last _ _⟩
section
variable {P : Program} {w : World} {K : PySem.W.Frag} {mg : Str → Option Value} {base : Heap}
theorem ndKP : (["_law_k", "_law_pile"] : List Str).Nodup := by decide +kernel
theorem scFreeR : FnScope ["_law_left", "_law_wares_here", "_law_counts_here", "_law_letters", "_law_pile", "_law_place", "_law_ware", "_law_top", "_law_parts", "_law_word", "_law_j", "_law_tail"] ["_law_left", "_law_wares_here", "_law_counts_here"] (defScope sFreeR) := ⟨rfl, rfl, rfl, by decide +kernel, rfl, by decide +kernel, by decide +kernel⟩
theorem ok_freer {f : Addr} {fd : FuncData} (F : Fun K "_law_free_root" "_law_free_root" sFreeR f fd) (T : Txt mg) (cD : Cal P w K mg base CX0 3 "_law_digit" ["_law_left", "_law_many"] spDigit) (cL : Cal P w K mg base CX0 3 "_law_lowest" ["_law_top", "_law_bottom"] spLowest)
    (cT : Cal P w K mg base CX0 3 "_law_total" ["_law_parts"] spTotal) : FnOk P w K mg base CX0 4 f fd ["_law_left", "_law_wares_here", "_law_counts_here"] spFreeR := by
  refine F.ok scFreeR (fun vs H Q E h => ?_) (fun cdv A outer s H vs Q E hr h => ?_)
  · obtain ⟨_, _, _, _, _, rfl, _⟩ := h
    rfl
  · obtain ⟨a, ws, c, wr, cs, rfl, lf, hws, w6, hcs, wa, ca, ct, k⟩ := h
    refine ⟨_, (pss_cons (ps_set (i := 3) scFreeR.nd rfl (Or.inl rfl) pe_str)
      (pss_cons (ps_set (i := 4) scFreeR.nd rfl (Or.inr rfl) (pe_lst pa_nil))
      (pss_cons (ps_for PassesOwn.never rfl (pi_rev rfl T.rev' rfl T.range (pa_cons (pe_callB call_len_seq rfl T.len PySem.boot_len (pa_cons (pv 2) pa_nil)) pa_nil)) (pg_name (i := 5) scFreeR.nd rfl (Or.inl rfl))
        (pss_one (ps_if (pt_cmpR op_eq (pe_ix ix_list (pv 2) (pv 5) (fun _ _ => rfl)) pe_int (nomark _))
        (pss_cons (ps_set (i := 6) scFreeR.nd rfl (Or.inl rfl) (pe_ix ix_list (pv 1) (pe_cal cD hr rfl pass0 (pa_cons (pv 0) (pa_cons pe_int pa_nil))) (fun _ _ => rfl)))
      (pss_cons (ps_set (i := 7) scFreeR.nd rfl (Or.inl rfl) (pe_op op_add pe_int (pe_cal cD hr rfl pass0 (pa_cons (pv 0) (pa_cons pe_int pa_nil)))))
      (pss_one (ps_expr (pe_bm PySem.F.plainAttrs_list PySem.F.slot_list_append PySem.F.type_list_append mt_append (pv 4) (pa_cons (pe_tup (pa_cons pe_str (pa_cons (pv 6) (pa_cons (pe_cal cL hr rfl pass0 (pa_cons (pv 7) (pa_cons (pe_op op_add pe_int (pe_cal cD hr rfl pass0 (pa_cons (pv 0) (pa_cons pe_int pa_nil)))) pa_nil))) pa_nil)))) pa_nil))))))
        (pss_cons (ps_set (i := 8) scFreeR.nd rfl (Or.inl rfl) (pe_callTy call_tuple_of rfl T.tup' bt_tuple (pa_cons
          (pe_compC (N' := ["_law_k", "_law_pile"]) (fun σ => [none, some 4].map fun t => t.bind fun j => (σ[j]?).join) rfl rfl (by decide +kernel) (by decide +kernel)
            (hk_of (sc := defScope sFreeR) rfl (by decide +kernel)) (fun _ _ _ => blkN_by (sc := defScope sFreeR) (N := ["_law_left", "_law_wares_here", "_law_counts_here", "_law_letters", "_law_pile", "_law_place", "_law_ware", "_law_top", "_law_parts", "_law_word", "_law_j", "_law_tail"]) [none, some 4] rfl rfl rfl rfl (by decide +kernel))
            (pi_range1 rfl T.range (pa_cons (pe_ix ix_list (pv 2) (pv 5) (fun _ _ => rfl)) pa_nil)) (fun _ _ _ _ _ _ => pg_name (i := 0) ndKP rfl (Or.inl rfl)) (fun _ _ _ _ _ _ => pifs_nil)
            (fun _ _ _ _ _ _ => pe_bm0K (K := K) rfl PySem.F.plainAttrs_list PySem.F.slot_list_pop PySem.F.type_list_pop mt_pop (pv 1))) pa_nil)))
      (pss_cons (ps_set (i := 9) scFreeR.nd rfl (Or.inl rfl) pe_str)
      (pss_cons (ps_for PassesOwn.never rfl (pi_range1 rfl T.range (pa_cons (pe_op op_add pe_int (pe_cal cD hr rfl pass0 (pa_cons (pv 0) (pa_cons pe_int pa_nil)))) pa_nil)) (pg_name (i := 10) scFreeR.nd rfl (Or.inl rfl))
        (pss_one (ps_set (i := 9) scFreeR.nd rfl (Or.inl rfl) (pe_op op_add_str (pv 9) (pe_ix ix_str (pv 3) (pe_cal cD hr rfl pass0 (pa_cons (pv 0) (pa_cons pe_int pa_nil))) (fun _ _ => rfl))))))
      (pss_cons (ps_for PassesOwn.never rfl (pi_str pe_str) (pg_name (i := 11) scFreeR.nd rfl (Or.inl rfl))
        (pss_one (ps_if (pt_cmpR op_in_seq (pv 9) (pv 1) rfl)
        (pss_one (ps_set (i := 9) scFreeR.nd rfl (Or.inl rfl) (pe_op op_add_str pe_str (pv 11))))
        pss_nil)))
      (pss_one (ps_expr (pe_bm PySem.F.plainAttrs_list PySem.F.slot_list_append PySem.F.type_list_append mt_append (pv 4) (pa_cons (pe_tup (pa_cons pe_str (pa_cons (pv 9) (pa_cons (pe_cal cT hr rfl pass0 (pa_cons (pv 8) pa_nil)) (pa_cons (pv 8) pa_nil))))) pa_nil)))))))))))
      (pss_one (ps_ret (pe_ix ix_list (pv 4) (pe_un un_neg pe_int) (fun _ _ => rfl))))))), ?_⟩
    have zL : LET.length ≤ sizeLine := by decide +kernel
    refine ⟨(by show 0 ≤ sizeLine; decide), fun Pl nP => ?_⟩
    have Pa : Pl ≠ a := lf.there nP
    have cP : c ≠ Pl := fun e => by rw [e, nP] at hcs; cases hcs
    refine ⟨_, rfl, c, _, rfl, .inl (SqL.of (by rw [upd_ne cP]; exact hcs)), _, rfl, by omega, ?_, ?_⟩
    · rw [List.length_map]
      have := ct.ln
      omega
    rw [List.length_map, Int.toNat_natCast]
    have cl := ct.ln
    refine for_range3 (fun j σ H' => ∃ (pl : List Pt) (v5 v6 v7 v8 v9 v10 v11 : Option V), σ = [some (.ref a), some (.ref ws), some (.ref c), some (.str LET), some (.ref Pl), v5, v6, v7, v8, v9, v10, v11] ∧ SmB a H H' ∧ Lf H' a ∧ H' Pl = some (.lst (pl.map (·.1))) ∧ Pile H' cs j pl)
      ⟨[], none, none, none, none, none, none, none, rfl, SmB.refl.own nP, lf.own Pa, upd_same, Pile.nil⟩ ?_ ?_
    · rintro j σ H1 hj ⟨pl, v5, v6, v7, v8, v9, v10, v11, rfl, sb, lf1, hP, pi⟩
      obtain ⟨kk, hk⟩ : ∃ kk, cs.length = kk + 1 + j := ⟨cs.length - 1 - j, by omega⟩
      have ek : (cs.length : Int) - 1 + (j : Nat) * -1 = (kk : Int) := by omega
      rw [ek]
      obtain ⟨cnt, hcnt⟩ : ∃ x, cs[kk]? = some x := ⟨_, List.getElem?_eq_getElem (by omega)⟩
      have hat : atI (cs.map V.int) (kk : Int) = some (.int cnt) := atI_nat (by rw [List.getElem?_map, hcnt]; rfl)
      have hc1 := sb _ _ ca hcs
      refine ⟨_, rfl, _, rfl, c, _, (kk : Int), .int cnt, rfl, rfl, SqL.of hc1, hat, rfl, _, rfl, ite2 (fun h0 => ?_) (fun h0 => ?_)⟩
      · have ec : cnt = 0 := by simpa [eqV] using h0
        subst ec
        refine ⟨_, rfl, _, rfl, a, 6, rfl, lf1, by decide, b9, fun d H2 d0 dl s2 lf2 => ?_⟩
        obtain ⟨dn, rfl⟩ := Int.eq_ofNat_of_zero_le d0
        obtain ⟨x, hx⟩ : ∃ x, wr[dn]? = some x := ⟨_, List.getElem?_eq_getElem (by omega)⟩
        have sb2 := sb.trans s2
        refine ⟨ws, _, (dn : Int), .str x, rfl, rfl, SqL.of (sb2 _ _ wa hws), atI_nat (by rw [List.getElem?_map, hx]; rfl), ?_⟩
        refine ⟨_, rfl, a, 1000, rfl, lf2, by decide, b9, fun d2 H3 d20 d2l s3 lf3 => ⟨_, _, rfl, rfl, ?_⟩⟩
        have sb3 := sb2.trans s3
        have hP3 := s3 _ _ Pa (s2 _ _ Pa hP)
        refine ⟨_, rfl, .inl ⟨rfl, _, SqL.of hP3⟩, _, rfl, _, rfl, _, rfl, a, 100, rfl, lf3, by decide, b9, fun d3 H4 d30 d3l s4 lf4 => ⟨_, _, rfl, rfl, ?_⟩⟩
        have sb4 := sb3.trans s4
        have hP4 := s4 _ _ Pa hP3
        refine ⟨_, _, rfl, by omega, by omega, b9 (by omega) (by omega), fun m H5 s5 nm hm => ?_⟩
        have lf5 := lf4.keep s5
        have hP5 := s5 _ _ hP4
        have rm := low_rm (t := 1 + d2) (b := 1 + d3) (by omega) (by omega) (bt_lt 63 (c := 2000) (by omega) (by omega)) (bt_lt 63 (c := 2000) (by omega) (by omega))
        refine ⟨(by show 3 ≤ sizeLine; decide), fun z hz => ?_⟩
        have zP : Pl ≠ z := fun e => by rw [← e, hP5] at hz; cases hz
        have za : z ≠ a := lf5.there hz
        refine ⟨Pl, _, _, rfl, rfl, (by rw [upd_ne zP]; exact hP5), small1000 (by rw [List.length_map]; have := pi.sz; have := len_szs pi.tr; omega), ?_⟩
        have nz : H z = none := sb4.none (sm_none s5 hz) za
        have tk : Tk H1 (upd (upd H5 z (.tup [.str "ware", .str x, .ref m])) Pl (.lst (pl.map (·.1) ++ [.ref z]))) :=
          (sb_tk s2 lf1).trans ((sb_tk s3 lf2).trans ((sb_tk s4 lf3).trans (s5.tk.trans ((Same.upd hz).tk.trans (Tk.lst (by rw [upd_ne zP]; exact hP5))))))
        have hzz : upd (upd H5 z (.tup [.str "ware", .str x, .ref m])) Pl (.lst (pl.map (·.1) ++ [.ref z])) z = some (.tup [.str "ware", .str x, .ref m]) := by rw [upd_ne zP.symm]; exact upd_same
        have tr : Tr (upd (upd H5 z (.tup [.str "ware", .str x, .ref m])) Pl (.lst (pl.map (·.1) ++ [.ref z]))) 1 (.ref z) 1 0 := by
          refine .inl ⟨z, m, x, rfl, hzz, ⟨_, _, ?_, Int.le_trans (by decide) rm.t1, rm.b1, rm.st, rm.sb⟩, rfl, rfl⟩
          have mP : m ≠ Pl := fun e => by rw [e, hP5] at hm; cases hm
          have mz : m ≠ z := fun e => by rw [e, hz] at hm; cases hm
          rw [upd_ne mP, upd_ne mz]
          exact hm
        refine ⟨pl ++ [(.ref z, 1, 0)], _, _, _, _, _, _, _, rfl, ?_, ?_, ?_, (pi.keep tk).ware hk hcnt tr⟩
        · exact ((sb4.trans (SmB.of s5)).own nz).own nP
        · exact (lf5.own za).own Pa
        · rw [List.map_append]
          exact upd_same
      · have ec : cnt ≠ 0 := by simpa [eqV] using h0
        obtain ⟨r, u, rfl, ul, u64⟩ := pi.split ct.ok hk hcnt
        subst ul
        have sz := pi.sz
        rw [szs_append, szs_rev] at sz
        refine ⟨_, rfl, _, rfl, c, _, (kk : Int), .int (u.length : Int), rfl, rfl, SqL.of hc1, hat, _, rfl, by omega, by omega, ?_⟩
        rw [Int.toNat_natCast, ← List.length_map (f := fun x : Pt => x.1) (as := u)]
        refine fun D hD => ?_
        refine comp_pop (K := K) (Pl := Pl) (r := r.map (·.1)) (u := u.map (·.1)) (by rw [hP, List.map_append, List.map_reverse]) hD (by rw [List.length_map]; omega) (fun H2 b2 hP2 hD2 => ?_)
        refine ⟨D, _, rfl, .inl ⟨SqL.of hD2, fun q hq => ?_⟩⟩
        have lf2 : Lf H2 a := by
          obtain ⟨m, e, h0⟩ := lf1
          exact ⟨m, b2 _ _ Pa.symm e, h0⟩
        have sb2 : SmB a H H2 := fun b o n e => b2 b o (fun z => by rw [z, nP] at e; cases e) (sb b o n e)
        have qP : Pl ≠ q := fun e => by rw [← e, hP2] at hq; cases hq
        have qa : q ≠ a := lf2.there hq
        have nq : H q = none := sb2.none hq qa
        have tk2 : Tk H1 (upd H2 q (.tup (u.map (·.1)))) := (Bx.tk b2 hP).trans (Same.upd hq).tk
        have hP3 : upd H2 q (.tup (u.map (·.1))) Pl = some (.lst (r.map (·.1))) := by rw [upd_ne qP]; exact hP2
        have hq3 : upd H2 q (.tup (u.map (·.1))) q = some (.tup (u.map (·.1))) := upd_same
        have lf3 := lf2.own (o := HO.tup (u.map (·.1))) qa
        have sb3 := sb2.own (o := HO.tup (u.map (·.1))) nq
        generalize upd H2 q (.tup (u.map (·.1))) = H3 at tk2 hP3 hq3 lf3 sb3 ⊢
        refine ⟨_, rfl, a, 8, rfl, lf3, by decide, b9, fun d H4 d0 dl s4 lf4 => ⟨_, _, rfl, rfl, _, rfl, by omega, by omega, ?_⟩⟩
        have tk4 := tk2.trans (sb_tk s4 lf3)
        have hP4 := s4 _ _ Pa hP3
        have hq4 := s4 _ _ qa hq3
        have sb4 := sb3.trans s4
        refine for_range (fun i σ H' => ∃ (x : Str) (v10' : Option V), σ = [some (.ref a), some (.ref ws), some (.ref c), some (.str LET), some (.ref Pl), some (.int kk), v6, v7, some (.ref q), some (.str x), v10', v11] ∧ x.length ≤ i ∧ SmB a H H' ∧ Lf H' a ∧ Tk H1 H' ∧ H' Pl = some (.lst (r.map (·.1))) ∧ H' q = some (.tup (u.map (·.1))))
          ⟨"", _, rfl, Nat.le_refl _, sb4, lf4, tk4, hP4, hq4⟩ ?_ ?_
        · rintro i σ H5 hi ⟨x, v10', rfl, xl, sb5, lf5, tk5, hP5, hq5⟩
          refine ⟨_, rfl, _, rfl, _, rfl, a, 26, rfl, lf5, by decide, b9, fun g H6 g0 gl s6 lf6 => ?_⟩
          obtain ⟨gn, rfl⟩ := Int.eq_ofNat_of_zero_le g0
          refine ⟨LET, (gn : Int), 97 + gn, rfl, rfl, zL, atI_nat (at_let (by omega)), _, _, rfl, rfl, sz1000 (by show x.length + 1 ≤ 1000; omega), ?_⟩
          refine ⟨_, _, rfl, ?_, sb5.trans s6, lf6, tk5.trans (sb_tk s6 lf5), s6 _ _ Pa hP5, s6 _ _ qa hq5⟩
          rw [lenA]
          show x.length + 1 ≤ i + 1
          omega
        · rintro σ H5 ⟨x, v10', rfl, xl, sb5, lf5, tk5, hP5, hq5⟩
          have xl' : x.length ≤ 8 := by omega
          refine ⟨"abcdefg", rfl, ?_⟩
          refine for_str (fun i σ H' => ∃ (y : Str) (v11' : Option V), σ = [some (.ref a), some (.ref ws), some (.ref c), some (.str LET), some (.ref Pl), some (.int kk), v6, v7, some (.ref q), some (.str y), v10', v11'] ∧ y.length ≤ 8 ∧ H' = H5) ⟨x, _, rfl, xl', rfl⟩ ?_ ?_
          · rintro i g σ H6 hg ⟨y, v11', rfl, yl, rfl⟩
            refine ⟨_, rfl, _, rfl, ws, _, rfl, .inl (SqL.of (sb5 _ _ wa hws)), rfl, flat_strs wr, _, rfl, ite2 (fun _ => ?_) (fun _ => ?_)⟩
            · refine ⟨_, rfl, _, _, rfl, rfl, (by show 3 + 1 ≤ sizeLine; decide), ⟨_, _, rfl, ?_, rfl⟩⟩
              rw [lenA]
              show 3 + 1 ≤ 8
              decide
            · exact ⟨y, _, rfl, yl, rfl⟩
          · rintro σ H6 ⟨y, v11', rfl, yl, rfl⟩
            have pi5 := pi.keep tk5
            have hu : ∀ e ∈ u, Tr H6 _ e.1 e.2.1 e.2.2 := fun e he => pi5.tr e (by simp [he])
            refine ⟨_, rfl, .inl ⟨rfl, _, SqL.of hP5⟩, _, rfl, _, rfl, q, u, rfl, hq5, ⟨_, hu⟩, by omega, fun m H7 s7 nm am => ?_⟩
            have hP7 := s7 _ _ hP5
            have hq7 := s7 _ _ hq5
            have lf7 := lf5.keep s7
            refine ⟨_, rfl, (by show 4 ≤ sizeLine; decide), fun z hz => ?_⟩
            have zP : Pl ≠ z := fun e => by rw [← e, hP7] at hz; cases hz
            have za : z ≠ a := lf7.there hz
            have nz : H z = none := sb5.none (sm_none s7 hz) za
            have rl : r.length ≤ 100 := by
              have := len_szs (H := H1) (l := r) fun c hc => pi.tr c (by simp [hc])
              omega
            refine ⟨Pl, _, _, rfl, rfl, (by rw [upd_ne zP]; exact hP7), small1000 (by rw [List.length_map]; omega), ?_⟩
            have hPz : upd H7 z (.tup [.str "recipe", .str y, .ref m, .ref q]) Pl = some (.lst (r.map (·.1))) := by rw [upd_ne zP]; exact hP7
            have tk8 : Tk H7 (upd (upd H7 z (.tup [.str "recipe", .str y, .ref m, .ref q])) Pl (.lst (r.map (·.1) ++ [.ref z]))) := (Same.upd hz).tk.trans (Tk.lst hPz)
            have tkA := tk5.trans (s7.tk.trans tk8)
            have hzz : upd (upd H7 z (.tup [.str "recipe", .str y, .ref m, .ref q])) Pl (.lst (r.map (·.1) ++ [.ref z])) z = some (.tup [.str "recipe", .str y, .ref m, .ref q]) := by rw [upd_ne zP.symm]; exact upd_same
            obtain ⟨d', d1, tr⟩ := Tr.recipe hzz (tk8 _ _ hq7) (by omega) u64 (fun e he => (hu e he).keep (s7.tk.trans tk8)) (am.keep tk8)
            refine ⟨r ++ [(.ref z, 1 + szs u, d')], _, _, _, _, _, _, _, rfl, ?_, ?_, ?_, (pi.keep tkA).recipe hk hcnt ec rfl d1 tr⟩
            · exact ((sb5.trans (SmB.of s7)).own nz).own nP
            · exact (lf7.own za).own Pa
            · rw [List.map_append]
              exact upd_same
    · rintro σ H1 ⟨pl, v5, v6, v7, v8, v9, v10, v11, rfl, sb, lf1, hP, pi⟩
      obtain ⟨v, d, tr, s100, d1, hat⟩ := pile_end pi ct
      exact ⟨_, rfl, _, rfl, Pl, _, -1, v.1, rfl, rfl, SqL.of hP, hat, k v.1 v.2.1 d H1 sb tr s100 d1⟩
end
end K44

namespace K44
open PySem PySem.Spec PyProof.Rows L2 GM TM TR
theorem at8 {i : Int} (h0 : 0 ≤ i) (h1 : i < 8) : ∃ g : Nat, atI (cps "abcdefgh") i = some g := by
  obtain ⟨n, rfl⟩ := Int.eq_ofNat_of_zero_le h0
  have l : (cps ("abcdefgh" : Str)).length = 8 := by decide +kernel
  exact ⟨_, atI_nat (List.getElem?_eq_getElem (by omega))⟩
section
variable {P : Program} {w : World} {K : PySem.W.Frag} {mg : Str → Option Value} {base : Heap}
theorem scRoot : FnScope ["_law_script", "_law_wares_here", "_law_counts_here", "_law_pile", "_law_place", "_law_number", "_law_parts"] ["_law_script", "_law_wares_here", "_law_counts_here"] (defScope sRoot) := ⟨rfl, rfl, rfl, by decide +kernel, rfl, by decide +kernel, by decide +kernel⟩
theorem ok_root {f : Addr} {fd : FuncData} (F : Fun K "_law_root" "_law_root" sRoot f fd) (T : Txt mg) (cC : Cal P w K mg base CX0 4 "_law_cell_at" ["_law_script", "_law_k"] (spCell K)) (cM : Cal P w K mg base CX0 4 "_law_mixed" ["_law_cell", "_law_k"] spMixed) (cU : Cal P w K mg base CX0 4 "_law_much" ["_law_number"] spMuch)
    (cF : Cal P w K mg base CX0 4 "_law_free_root" ["_law_left", "_law_wares_here", "_law_counts_here"] spFreeR) (cT : Cal P w K mg base CX0 4 "_law_total" ["_law_parts"] spTotal) : FnOk P w K mg base CX0 5 f fd ["_law_script", "_law_wares_here", "_law_counts_here"] (spRoot K) := by
  refine F.ok scRoot (fun vs H Q E h => ?_) (fun cdv A outer s H vs Q E hr h => ?_)
  · obtain ⟨_, _, _, _, _, _, rfl, _⟩ := h
    rfl
  · obtain ⟨a, ws, c, ns, wr, cs, rfl, ha, hws, w6, hcs, ct, k⟩ := h
    refine ⟨_, (pss_cons (ps_if (pt_cmpR op_eq (pe_op op_mod (pe_cal cC hr rfl pass0 (pa_cons (pv 0) (pa_cons pe_int pa_nil))) pe_int) pe_int (nomark _))
        (pss_one (ps_ret (pe_cal cF hr rfl pass0 (pa_cons (pe_lst (pa_cons (pe_callB call_abs rfl T.abs' bt_abs (pa_cons (pe_cal cC hr rfl pass0 (pa_cons (pv 0) (pa_cons pe_int pa_nil))) pa_nil)) pa_nil)) (pa_cons (pv 1) (pa_cons (pv 2) pa_nil))))))
        pss_nil)
      (pss_cons (ps_set (i := 3) scRoot.nd rfl (Or.inr rfl) (pe_lst pa_nil))
      (pss_cons (ps_for PassesOwn.never rfl (pi_rev rfl T.rev' rfl T.range (pa_cons (pe_callB call_len_seq rfl T.len PySem.boot_len (pa_cons (pv 2) pa_nil)) pa_nil)) (pg_name (i := 4) scRoot.nd rfl (Or.inl rfl))
        (pss_cons (ps_set (i := 5) scRoot.nd rfl (Or.inl rfl) (pe_cal cM hr rfl pass0 (pa_cons (pe_cal cC hr rfl pass0 (pa_cons (pv 0) (pa_cons (pe_op op_mod (pv 4) pe_int) pa_nil))) (pa_cons (pv 4) pa_nil))))
      (pss_one (ps_if (pt_cmpR op_eq (pe_ix ix_list (pv 2) (pv 4) (fun _ _ => rfl)) pe_int (nomark _))
        (pss_one (ps_expr (pe_bm PySem.F.plainAttrs_list PySem.F.slot_list_append PySem.F.type_list_append mt_append (pv 3) (pa_cons (pe_tup (pa_cons pe_str (pa_cons (pe_ix ix_list (pv 1) (pe_op op_mod (pv 5) pe_int) (fun _ _ => rfl)) (pa_cons (pe_cal cU hr rfl pass0 (pa_cons (pe_op op_fdivB (pv 5) pe_int) pa_nil)) pa_nil)))) pa_nil))))
        (pss_cons (ps_set (i := 6) scRoot.nd rfl (Or.inl rfl) (pe_callTy call_tuple_of rfl T.tup' bt_tuple (pa_cons
          (pe_compC (N' := ["_law_k", "_law_pile"]) (fun σ => [none, some 3].map fun t => t.bind fun j => (σ[j]?).join) rfl rfl (by decide +kernel) (by decide +kernel)
            (hk_of (sc := defScope sRoot) rfl (by decide +kernel)) (fun _ _ _ => blkN_by (sc := defScope sRoot) (N := ["_law_script", "_law_wares_here", "_law_counts_here", "_law_pile", "_law_place", "_law_number", "_law_parts"]) [none, some 3] rfl rfl rfl rfl (by decide +kernel))
            (pi_range1 rfl T.range (pa_cons (pe_ix ix_list (pv 2) (pv 4) (fun _ _ => rfl)) pa_nil)) (fun _ _ _ _ _ _ => pg_name (i := 0) ndKP rfl (Or.inl rfl)) (fun _ _ _ _ _ _ => pifs_nil)
            (fun _ _ _ _ _ _ => pe_bm0K (K := K) rfl PySem.F.plainAttrs_list PySem.F.slot_list_pop PySem.F.type_list_pop mt_pop (pv 1))) pa_nil)))
      (pss_one (ps_expr (pe_bm PySem.F.plainAttrs_list PySem.F.slot_list_append PySem.F.type_list_append mt_append (pv 3) (pa_cons (pe_tup (pa_cons pe_str (pa_cons (pe_op op_add_str pe_str (pe_ix ix_str pe_str (pe_op op_mod (pv 5) pe_int) (fun _ _ => rfl))) (pa_cons (pe_cal cT hr rfl pass0 (pa_cons (pv 6) pa_nil)) (pa_cons (pv 6) pa_nil))))) pa_nil)))))))))
      (pss_one (ps_ret (pe_ix ix_list (pv 3) (pe_un un_neg pe_int) (fun _ _ => rfl))))))), ?_⟩
    refine ⟨_, rfl, a, ns, 0, rfl, ha, by decide, fun c0 => ⟨_, _, rfl, rfl, (by show (0 : Int) < 2; decide), rfl, _, rfl, ite2 (fun _ => ?_) (fun _ => ?_)⟩⟩
    · refine ⟨_, rfl, a, ns, 4, rfl, ha, by decide, fun c4 => ⟨c4, rfl, (by show 1 ≤ sizeLine; decide), fun z hz => ?_⟩⟩
      have wz : ws ≠ z := fun e => by rw [e, hz] at hws; cases hws
      have cz : c ≠ z := fun e => by rw [e, hz] at hcs; cases hcs
      refine ⟨_, rfl, _, rfl, z, ws, c, wr, cs, rfl, ⟨_, upd_same, by split <;> omega⟩, by rw [upd_ne wz]; exact hws, w6, by rw [upd_ne cz]; exact hcs, wz, cz, ct, fun v n d H' sb tr n100 d1 => ?_⟩
      exact k v n d H' (fun b o e => sb b o (ne_of_none e hz) (by rw [upd_ne (ne_of_none e hz)]; exact e)) tr n100 d1
    refine ⟨(by show 0 ≤ sizeLine; decide), fun Pl nP => ?_⟩
    have cP : c ≠ Pl := fun e => by rw [e, nP] at hcs; cases hcs
    refine ⟨_, rfl, c, _, rfl, .inl (SqL.of (by rw [upd_ne cP]; exact hcs)), _, rfl, by omega, ?_, ?_⟩
    · rw [List.length_map]
      have := ct.ln
      omega
    rw [List.length_map, Int.toNat_natCast]
    have cl := ct.ln
    refine for_range3 (fun j σ H' => ∃ (pl : List Pt) (v4 v5 v6 : Option V), σ = [some (.ref a), some (.ref ws), some (.ref c), some (.ref Pl), v4, v5, v6] ∧ Same H H' ∧ H' Pl = some (.lst (pl.map (·.1))) ∧ Pile H' cs j pl)
      ⟨[], none, none, none, rfl, Same.upd nP, upd_same, Pile.nil⟩ ?_ ?_
    · rintro j σ H1 hj ⟨pl, v4, v5, v6, rfl, sm, hP, pi⟩
      obtain ⟨kk, hk⟩ : ∃ kk, cs.length = kk + 1 + j := ⟨cs.length - 1 - j, by omega⟩
      have ek : (cs.length : Int) - 1 + (j : Nat) * -1 = (kk : Int) := by omega
      rw [ek]
      obtain ⟨cnt, hcnt⟩ : ∃ x, cs[kk]? = some x := ⟨_, List.getElem?_eq_getElem (by omega)⟩
      have hat : atI (cs.map V.int) (kk : Int) = some (.int cnt) := atI_nat (by rw [List.getElem?_map, hcnt]; rfl)
      have hc1 := sm _ _ hcs
      have e61 := emod_in (kk : Int) (m := 61) (by decide)
      refine ⟨_, rfl, _, rfl, _, _, rfl, rfl, (by show (0 : Int) < 61; decide), a, ns, _, rfl, sm.seq ha, e61.1, fun ce => ⟨_, rfl, ce, _, rfl, by omega, by omega, fun u u0 ul => ?_⟩⟩
      refine ⟨_, rfl, _, rfl, c, _, (kk : Int), .int cnt, rfl, rfl, SqL.of hc1, hat, rfl, _, rfl, ite2 (fun h0 => ?_) (fun h0 => ?_)⟩
      · have ec : cnt = 0 := by simpa [eqV] using h0
        subst ec
        have e6 := emod_in u (m := 6) (by decide)
        obtain ⟨dn, hdn⟩ := Int.eq_ofNat_of_zero_le e6.1
        obtain ⟨x, hx⟩ : ∃ x, wr[dn]? = some x := ⟨_, List.getElem?_eq_getElem (by omega)⟩
        refine ⟨_, rfl, .inl ⟨rfl, _, SqL.of hP⟩, _, rfl, _, rfl, _, _, rfl, rfl, (by show (0 : Int) < 6; decide), ws, _, _, .str x, rfl, rfl, SqL.of (sm _ _ hws), (by rw [hdn]; exact atI_nat (by rw [List.getElem?_map, hx]; rfl)), _, rfl, _, _, rfl, rfl, ⟨by decide, b9⟩, ?_⟩
        refine ⟨_, rfl, Int.ediv_nonneg u0 (by decide), Int.lt_of_le_of_lt (Int.ediv_le_self _ u0) ul, fun t b m H5 rm s5 nm hm => ?_⟩
        have hP5 := s5 _ _ hP
        refine ⟨(by show 3 ≤ sizeLine; decide), fun z hz => ?_⟩
        have zP : Pl ≠ z := fun e => by rw [← e, hP5] at hz; cases hz
        refine ⟨Pl, _, _, rfl, rfl, (by rw [upd_ne zP]; exact hP5), small1000 (by rw [List.length_map]; have := pi.sz; have := len_szs pi.tr; omega), ?_⟩
        have nz : H z = none := sm_none (sm.trans s5) hz
        have tk : Tk H1 (upd (upd H5 z (.tup [.str "ware", .str x, .ref m])) Pl (.lst (pl.map (·.1) ++ [.ref z]))) :=
          s5.tk.trans ((Same.upd hz).tk.trans (Tk.lst (by rw [upd_ne zP]; exact hP5)))
        have hzz : upd (upd H5 z (.tup [.str "ware", .str x, .ref m])) Pl (.lst (pl.map (·.1) ++ [.ref z])) z = some (.tup [.str "ware", .str x, .ref m]) := by rw [upd_ne zP.symm]; exact upd_same
        have tr : Tr (upd (upd H5 z (.tup [.str "ware", .str x, .ref m])) Pl (.lst (pl.map (·.1) ++ [.ref z]))) 1 (.ref z) 1 0 := by
          refine .inl ⟨z, m, x, rfl, hzz, ⟨_, _, ?_, Int.le_trans (by decide) rm.t1, rm.b1, rm.st, rm.sb⟩, rfl, rfl⟩
          have mP : m ≠ Pl := fun e => by rw [e, hP5] at hm; cases hm
          have mz : m ≠ z := fun e => by rw [e, hz] at hm; cases hm
          rw [upd_ne mP, upd_ne mz]
          exact hm
        refine ⟨pl ++ [(.ref z, 1, 0)], _, _, _, rfl, sm_own (sm_own (sm.trans s5) nz) nP, ?_, (pi.keep tk).ware hk hcnt tr⟩
        rw [List.map_append]
        exact upd_same
      · have ec : cnt ≠ 0 := by simpa [eqV] using h0
        obtain ⟨r, t, rfl, tl, t64⟩ := pi.split ct.ok hk hcnt
        subst tl
        have sz := pi.sz
        rw [szs_append, szs_rev] at sz
        refine ⟨_, rfl, _, rfl, c, _, (kk : Int), .int (t.length : Int), rfl, rfl, SqL.of hc1, hat, _, rfl, by omega, by omega, ?_⟩
        rw [Int.toNat_natCast, ← List.length_map (f := fun x : Pt => x.1) (as := t)]
        refine fun D hD => ?_
        refine comp_pop (K := K) (Pl := Pl) (r := r.map (·.1)) (u := t.map (·.1)) (by rw [hP, List.map_append, List.map_reverse]) hD (by rw [List.length_map]; omega) (fun H2 b2 hP2 hD2 => ?_)
        refine ⟨D, _, rfl, .inl ⟨SqL.of hD2, fun q hq => ?_⟩⟩
        have sm2 : Same H H2 := fun b o e => b2 b o (fun z => by rw [z, nP] at e; cases e) (sm b o e)
        have qP : Pl ≠ q := fun e => by rw [← e, hP2] at hq; cases hq
        have nq : H q = none := sm_none sm2 hq
        have tk2 : Tk H1 (upd H2 q (.tup (t.map (·.1)))) := (Bx.tk b2 hP).trans (Same.upd hq).tk
        have hP3 : upd H2 q (.tup (t.map (·.1))) Pl = some (.lst (r.map (·.1))) := by rw [upd_ne qP]; exact hP2
        have hq3 : upd H2 q (.tup (t.map (·.1))) q = some (.tup (t.map (·.1))) := upd_same
        have sm3 := sm_own (o := HO.tup (t.map (·.1))) sm2 nq
        generalize upd H2 q (.tup (t.map (·.1))) = H3 at tk2 hP3 hq3 sm3 ⊢
        have e8 := emod_in u (m := 8) (by decide)
        obtain ⟨g, hg⟩ := at8 e8.1 e8.2
        have pi3 := pi.keep tk2
        have hu : ∀ e ∈ t, Tr H3 _ e.1 e.2.1 e.2.2 := fun e he => pi3.tr e (by simp [he])
        refine ⟨_, rfl, .inl ⟨rfl, _, SqL.of hP3⟩, _, rfl, _, _, rfl, rfl, (by show (0 : Int) < 8; decide), "abcdefgh", _, g, rfl, rfl, (by decide +kernel), hg, _, _, rfl, rfl, (by show 3 + 1 ≤ sizeLine; decide), _, rfl, q, t, rfl, hq3, ⟨_, hu⟩, by omega, fun m H7 s7 nm am => ?_⟩
        have hP7 := s7 _ _ hP3
        have hq7 := s7 _ _ hq3
        refine ⟨_, rfl, (by show 4 ≤ sizeLine; decide), fun z hz => ?_⟩
        have zP : Pl ≠ z := fun e => by rw [← e, hP7] at hz; cases hz
        have nz : H z = none := sm_none (sm3.trans s7) hz
        have rl := len_szs (H := H1) (l := r) fun c hc => pi.tr c (by simp [hc])
        refine ⟨Pl, _, _, rfl, rfl, (by rw [upd_ne zP]; exact hP7), small1000 (by rw [List.length_map]; omega), ?_⟩
        generalize (("mix" : Str) ++ (⟨#[g]⟩ : Str)) = y
        have hPz : upd H7 z (.tup [.str "recipe", .str y, .ref m, .ref q]) Pl = some (.lst (r.map (·.1))) := by rw [upd_ne zP]; exact hP7
        have tk8 : Tk H7 (upd (upd H7 z (.tup [.str "recipe", .str y, .ref m, .ref q])) Pl (.lst (r.map (·.1) ++ [.ref z]))) := (Same.upd hz).tk.trans (Tk.lst hPz)
        have tkA := tk2.trans (s7.tk.trans tk8)
        have hzz : upd (upd H7 z (.tup [.str "recipe", .str y, .ref m, .ref q])) Pl (.lst (r.map (·.1) ++ [.ref z])) z = some (.tup [.str "recipe", .str y, .ref m, .ref q]) := by rw [upd_ne zP.symm]; exact upd_same
        obtain ⟨d', d1, tr⟩ := Tr.recipe hzz (tk8 _ _ hq7) (by omega) t64 (fun e he => (hu e he).keep (s7.tk.trans tk8)) (am.keep tk8)
        refine ⟨r ++ [(.ref z, 1 + szs t, d')], _, _, _, rfl, sm_own (sm_own (sm3.trans s7) nz) nP, ?_, (pi.keep tkA).recipe hk hcnt ec rfl d1 tr⟩
        rw [List.map_append]
        exact upd_same
    · rintro σ H1 ⟨pl, v4, v5, v6, rfl, sm, hP, pi⟩
      obtain ⟨v, d, tr, s100, d1, hat⟩ := pile_end pi ct
      exact ⟨_, rfl, _, rfl, Pl, _, -1, v.1, rfl, rfl, SqL.of hP, hat, k v.1 v.2.1 d H1 sm tr s100 d1⟩
end
end K44

namespace HT
open PySem PySem.Spec PyProof.Rows
section
variable {prog : Program} {w : World} {A : Around} {E : Value → Shared → Prop} {s : Shared}
end
end HT
namespace L2
open PySem PySem.Spec PyProof.Rows
section
variable {X : Cx}
/-- t * k of a tuple that is not empty, k from 1 on: t * 1 is t itself -/
def rRepTA (K : PySem.W.Frag) : R2 := fun x y H Q => ∃ a k xs, x = .ref a ∧ y = .int k ∧ SqT K H a xs ∧ xs ≠ [] ∧ 1 ≤ k ∧ k ≤ 1000 ∧ xs.length ≤ 1000 ∧ (k = 1 → Q (.ref a) H) ∧ (2 ≤ k → ∀ p, H p = none → Q (.ref p) (upd H p (.tup (List.replicate k.toNat xs).flatten)))
/-- t + u, u not empty and laid here: the heap grows by the new tuple, or is as it was -/
def rCatTB (K : PySem.W.Frag) : R2 := fun x y H Q => ∃ a b xs ys, x = .ref a ∧ y = .ref b ∧ SqT K H a xs ∧ H b = some (.tup ys) ∧ ys ≠ [] ∧ xs.length + ys.length ≤ sizeLine ∧ ∀ p H', Same H H' → H' p = some (.tup (xs ++ ys)) → Q (.ref p) H'
theorem op_catTB : OpR X (binaryOp .Add) (rCatTB X.K) := by
  intro pins s σ H x y v u Q I rx ry h
  obtain ⟨a, b, xs, ys, rfl, rfl, ha, hb, hy, hz, q⟩ := h
  refine op_catTA pins s σ H _ _ v u Q I rx ry ?_
  by_cases e : xs = []
  · subst e
    exact .inl ⟨a, b, ys, rfl, rfl, ha, SqT.of hb, q b H (Same.refl _) (by rw [List.nil_append]; exact hb)⟩
  · exact .inr ⟨a, b, xs, ys, rfl, rfl, ha, SqT.of hb, e, hz, fun z => absurd z hy, fun _ p hp => q p _ (Same.upd hp) upd_same⟩
end
end L2

namespace PySem.SeqAt
open PySem MeetsSeq
theorem list_indexFrom (l : Addr) (items : Array Value) (n : Nat) (dd : Option Addr) (sl : Array (Option Value)) (x : Value) (t : Tok) (i0 : Nat) (e : Value → Bool) (j : Nat) (hj : j < items.size) (hi0 : i0 ≤ j) (hsmall : (j : Int) < 2 ^ 62)
    (hit : e items[j] = true) (hno : ∀ m (hm : m < items.size), i0 ≤ m → m < j → e items[m] = false) :
    Meets (Builtin.«list.index» ⟨[.ref l, x, .int (i0 : Int) t], []⟩)
      (fun A R s => s.heap.get? l = some { cls := .type "list", dict := dd, data := .seq items n, slots := sl } ∧ (∀ y, y ∈ items → EqAt A.in1 s y x (e y)) ∧ R (.ok (.ret (.int j s.toks))) { s with toks := s.toks + 1 }) := by
  intro prog w A R s h
  obtain ⟨hp, g, d, tk, os⟩ := s; obtain ⟨hl, he, h⟩ := h
  have f1 := AutoSeq1.idx_int
  wp_walk using wpAny_loadPart' hl
  have a1 : ((fun i : Int => if i < 0 then max 0 (i + (items.size : Int)) else i) ((some (i0 : Int)).getD 0)) = (i0 : Int) := by simp; omega
  have a2 : ((fun i : Int => if i < 0 then max 0 (i + (items.size : Int)) else i) ((none : Option Int).getD (2 ^ 63 - 1))) = 2 ^ 63 - 1 := by simp
  rw [a1, a2]
  exact ⟨plainId_quiet plain_index_loop _, codeAny_builtin entry_index_loop (by
    rw [Around.under_plainId plain_index_loop _]
    exact index_loopAt l items n dd sl x e (2 ^ 63 - 1) j hj (by omega) hit _ i0 rfl hi0 (fun m hm h1 h2 => hno m hm h1 h2) prog w A R _ ⟨hl, he, h⟩)⟩
end PySem.SeqAt
namespace HT
open PySem PySem.Spec PyProof.Rows
section
variable {prog : Program} {w : World} {A : Around} {E : Value → Shared → Prop} {s : Shared}
theorem getItem_tuple_whole {t sl : Addr} {items : Array Value} {vl vu : Value} {lo hi : Option Int} {Q : Value → Shared → Prop} (ht : IsTup s.heap t items) (hs : s.heap.IsSliceOf sl vl vu .none) (pl : IsPart vl lo) (pu : IsPart vu hi)
    (hw : sIx items.size 0 lo = 0 ∧ sIx items.size items.size hi = items.size) (h : Q (.ref t) s) : wpAny (model prog w) A (getItem (.ref t) (.ref sl)) Q E s := by
  obtain ⟨os, hos, hcs, hds⟩ := id hs
  have hTs : s.TypeIs (.ref sl) "slice" := ⟨os, hos, hcs⟩
  unfold getItem
  try with_reducible refine wpAny_holding ?_
  first | refine wpAny_bind (wpAny_pure ?_) | skip
  refine wpAny_bind (wpAny_sequenceKey ht.typeIs (by decide) ?_)
  refine wpAny_bind (wpAny_callSpecial?_slot (name := Str.ofString "__getitem__") ht.typeIs PyProof.Rows.slot_tuple_getitem
    (wpAny_call_entry PyProof.Rows.slot_tuple_getitem ht.typeIs entry_tuple_getitem ?_ (args_tuple_getitem _ _)))
  show wpAny _ _ (Builtin.Tuple.tupleItemsOf (.ref t) >>= _) _ _ s
  refine wpAny_bind (tupleItemsOf_ ht ?_)
  refine wpAny_bind (wpAny_typeOf hTs ?_)
  rw [if_pos (by decide)]
  refine wpAny_bind (sliceApplied_gen hs pl pu ?_)
  rw [hw.1, hw.2]
  have hyes : (((0 : Nat) : Int) == 0 && (1 : Int) == 1 && (items.size - 0) == items.size) = true := by simp
  show wpAny _ _ (if (((0 : Nat) : Int) == 0 && (1 : Int) == 1 && (items.size - 0) == items.size) = true then _ else _) _ _ s
  rw [if_pos hyes]
  refine wpAny_bind (m := Builtin.Tuple.tupleIsExact (.ref t)) ?_
  unfold Builtin.Tuple.tupleIsExact
  refine wpAny_bind (wpAny_typeOf ht.typeIs (wpAny_pure ?_))
  rw [if_pos (by decide)]
  exact wpAny_bind (wpAny_rule (wpAny_pure ⟨_, rfl, wpAny_pure h⟩))
end
end HT
namespace L2
open PySem PySem.Spec PyProof.Rows
/-- xs.index(y, i) -/
def rIndexF : V → List V → Hp → VK → Prop := fun x vs H Q => ∃ l xs y, ∃ i j : Nat, ∃ z, x = .ref l ∧ vs = [y, .int (i : Int)] ∧ H l = some (.lst xs) ∧ flatV y = true ∧ xs.all flatV = true ∧ i ≤ j ∧ xs[j]? = some z ∧ eqV z y = true ∧
  (∀ m z, i ≤ m → m < j → xs[m]? = some z → eqV z y = false) ∧ Q (.int (j : Int)) H
section
variable {X : Cx}
theorem mt_indexF : MtR X "list.index" rIndexF := by
  intro pins s σ H x vs v us Q I rx rv h
  obtain ⟨l, xs, y, i, j, z, rfl, rfl, hH, fy, fx, hij, hz, hit, hno, q⟩ := h
  cases rx
  obtain ⟨u, w', rfl, ru, ⟨t, rfl⟩⟩ := rv.two
  obtain ⟨hs, its, n, r, hl, e⟩ := I.lstM hH
  have hj : j < xs.length := (List.getElem?_eq_some_iff.mp hz).1
  have fl : ∀ (m : Nat) z, xs[m]? = some z → flatV z = true := fun m z hm => List.all_eq_true.mp fx z (List.mem_of_getElem? hm)
  have at' : ∀ (m : Nat) z, xs[m]? = some z → ∀ hm : m < its.toArray.size, eqU y its.toArray[m] = eqV z y := fun m z hm hm' => by
    obtain ⟨u1, hu1, ru1⟩ := r.get hm
    have e1 : its.toArray[m] = u1 := by
      have := (List.getElem?_eq_some_iff.mp hu1).2
      simpa using this
    rw [e1, eqU_of ru1 (fl m z hm)]
  have hj' : j < its.toArray.size := by rw [List.size_toArray, ← hl]; exact hj
  have hsl : sizeLine < 2 ^ 62 := by decide +kernel
  refine call_meets PySem.F.slot_list_index ⟨_, e, rfl⟩ PySem.F.entry_list_index (PySem.F.args_list_index_3 _ _ _) (SeqAt.list_indexFrom l its.toArray n none #[] u t i (eqU y) j hj' hij (by omega) ((at' j z hz hj').trans hit) (fun m hm h1 hlt => ?_)) ⟨e, fun u' hu' => mem_eqAt ru fy r fx u' (by simpa using hu'), ?_⟩
  · obtain ⟨z', hz'⟩ : ∃ z', xs[m]? = some z' := ⟨_, List.getElem?_eq_getElem (by omega)⟩
    rw [at' m z' hz' hm]
    exact hno m z' h1 hlt hz'
  · exact ⟨.int _, H, I.tok _, ⟨_, rfl⟩, q⟩
/-- t[lo:hi] whatever it is: what comes lies there, all else has stayed -/
def rSlTA (K : PySem.W.Frag) : V → Option Int → Option Int → Hp → VK → Prop := fun x lo hi H Q => ∃ a xs, x = .ref a ∧ H a = some (.tup xs) ∧ ∀ p H', Same H H' → H' p = some (.tup (cutV xs lo hi)) → Q (.ref p) H'
theorem sl_tupA : SlR X (rSlTA X.K) := by
  intro pins s σ H x v vl vu lo hi sl Q I rx hs pl pu h
  obtain ⟨a, xs, rfl, hx, q⟩ := h
  by_cases hw : HT.sIx xs.length 0 lo = 0 ∧ HT.sIx xs.length xs.length hi = xs.length
  · cases rx
    obtain ⟨its, r, ht, hz⟩ := I.tuple (SqT.of hx)
    have hlen : its.toArray.size = xs.length := by rw [List.size_toArray]; exact r.length.symm
    refine ⟨"tuple", _, PyProof.Rows.slot_tuple_getitem.lookup, ht.typeIs, ?_⟩
    refine HT.getItem_tuple_whole ht hs pl pu (by rw [hlen]; exact hw) ⟨.ref a, H, I, rfl, q a H (Same.refl _) ?_⟩
    unfold cutV
    rw [hw.1, hw.2, List.drop_zero, Nat.sub_zero, List.take_length]
    exact hx
  · exact sl_tup pins s σ H _ v vl vu lo hi sl Q I rx hs pl pu ⟨a, xs, rfl, SqT.of hx, hw, fun p hp => q p _ (Same.upd hp) upd_same⟩
end
end L2

namespace TR
open PySem PySem.Spec PyProof.Rows L2 GM
/-! ### papers of needs -/
def Pp (H : Hp) (root : V) : Nat → V → List Nat → Prop
  | 0, _, _ => False
  | h + 1, w, un => ∃ (p pa q m r : Addr) (y : Str) (ks : List Nat) (x : V), w = .ref p ∧ H p = some (.tup [.ref pa, x]) ∧ H pa = some (.tup (pth ks)) ∧ (∃ t, ks = un ++ t) ∧ AtP H root ks (.ref q) ∧ H q = some (.tup [.str "recipe", .str y, .ref m, .ref r]) ∧ ks.length ≤ 100 ∧
    ((h = 0 ∧ x = .non) ∨ (1 ≤ h ∧ ∃ (t : Addr) (w1 w2 : V) (i j : Nat), x = .ref t ∧ H t = some (.tup [w1, w2]) ∧ i ≠ j ∧ Pp H root h w1 (ks ++ [i]) ∧ Pp H root h w2 (ks ++ [j])))
theorem Pp.keep {H H' : Hp} {root : V} (k : Tk H H') : ∀ {h : Nat} {w : V} {un : List Nat}, Pp H root h w un → Pp H' root h w un
  | 0, _, _, h => h
  | h + 1, w, un, ⟨p, pa, q, m, r, y, ks, x, e, hp, hpa, hu, ap, hq, l, alt⟩ => by
    refine ⟨p, pa, q, m, r, y, ks, x, e, k _ _ hp, k _ _ hpa, hu, ap.keep k, k _ _ hq, l, ?_⟩
    rcases alt with a | ⟨h1, t, w1, w2, i, j, ex, ht, ij, a1, a2⟩
    · exact .inl a
    · exact .inr ⟨h1, t, w1, w2, i, j, ex, k _ _ ht, ij, Pp.keep k a1, Pp.keep k a2⟩
theorem Pp.under {H : Hp} {root : V} {h : Nat} {w : V} {un : List Nat} {i : Nat} (a : Pp H root h w (un ++ [i])) : Pp H root h w un := by
  cases h with
  | zero => exact a
  | succ h =>
    obtain ⟨p, pa, q, m, r, y, ks, x, e, hp, hpa, ⟨t, ht⟩, b⟩ := a
    exact ⟨p, pa, q, m, r, y, ks, x, e, hp, hpa, ⟨[i] ++ t, by rw [ht, List.append_assoc]⟩, b⟩
theorem first_ix {l : List Int} {x : Int} {i : Nat} : ∀ {j : Nat}, i ≤ j → l[j]? = some x → ∃ j, i ≤ j ∧ l[j]? = some x ∧ ∀ m, i ≤ m → m < j → l[m]? ≠ some x := by
  intro j
  induction j using Nat.strongRecOn with
  | _ j ih =>
    intro h1 h2
    by_cases h : ∃ m, i ≤ m ∧ m < j ∧ l[m]? = some x
    · obtain ⟨m, a, b, c⟩ := h
      exact ih m b a c
    · exact ⟨j, h1, h2, fun m a b c => h ⟨m, a, b, c⟩⟩
theorem two_ix {x : Int} : ∀ {l : List Int}, 2 ≤ l.count x → ∃ i j : Nat, i < j ∧ l[i]? = some x ∧ l[j]? = some x
  | [], h => by simp at h
  | a :: r, h => by
    by_cases e : a = x
    · subst e
      rw [List.count_cons_self] at h
      have m : a ∈ r := List.count_pos_iff.mp (by omega)
      obtain ⟨j, hj, e⟩ := List.mem_iff_getElem.mp m
      exact ⟨0, j + 1, by omega, rfl, by rw [List.getElem?_cons_succ, List.getElem?_eq_getElem hj, e]⟩
    · rw [List.count_cons_of_ne e] at h
      obtain ⟨i, j, h1, h2, h3⟩ := two_ix h
      exact ⟨i + 1, j + 1, by omega, by rw [List.getElem?_cons_succ]; exact h2, by rw [List.getElem?_cons_succ]; exact h3⟩
theorem Nd.two {ds : List Int} {d : Int} (h : Nd ds d) (d2 : 2 ≤ d) (hn : d ∉ ds) : ∃ i j : Nat, i < j ∧ ds[i]? = some (d - 1) ∧ ds[j]? = some (d - 1) := by
  obtain ⟨f, s, ⟨r, p, sf, _⟩, e⟩ := h
  have mf : f ∈ ds ++ [0, 0] := p.mem_iff.mpr (List.mem_cons_self ..)
  have fd : f ≠ d := fun z => by
    rcases List.mem_append.mp mf with h | h
    · exact hn (z ▸ h)
    · have : f = 0 := by simpa using h
      omega
  have e1 : f = d - 1 := by omega
  have e2 : s = d - 1 := by omega
  have c : (ds ++ [0, 0]).count (d - 1) ≥ 2 := by
    rw [p.count_eq, e1, e2, List.count_cons_self, List.count_cons_self]
    omega
  rw [List.count_append] at c
  have z : List.count (d - 1) [(0 : Int), 0] = 0 := List.count_eq_zero.mpr (by simp; omega)
  exact two_ix (by omega)
theorem Tr.fuel {H : Hp} : ∀ {n : Nat} {v : V} {s : Nat} {d : Int}, Tr H n v s d → d + 1 ≤ n
  | 0, _, _, _, h => h.elim
  | n + 1, v, s, d, h => by
    rcases h with ⟨_, _, _, _, _, _, _, rfl⟩ | ⟨p, m, q, x, cs, e, hp, hq, l1, l2, hc, hs, ⟨f, s', ⟨r, pm, sf, _⟩, hd⟩, am⟩
    · omega
    · have mf : f ∈ (cs.map (·.2.2)) ++ [0, 0] := pm.mem_iff.mpr (List.mem_cons_self ..)
      have hf : f + 1 ≤ n := by
        rcases List.mem_append.mp mf with h | h
        · obtain ⟨c, hc', rfl⟩ := List.mem_map.mp h
          exact Tr.fuel (hc c hc')
        · have : f = 0 := by simpa using h
          cases cs with
          | nil => exact absurd l1 (by decide)
          | cons c r =>
            have := Tr.fuel (hc c (List.mem_cons_self ..))
            have := (hc c (List.mem_cons_self ..)).need
            omega
      omega
abbrev ksI (ks : List Nat) : List Int := ks.map fun (k : Nat) => (k : Int)
theorem pth_ints (ks : List Nat) : pth ks = (ksI ks).map V.int := by rw [List.map_map]; rfl
theorem pth_snoc (ks : List Nat) (k : Nat) : pth (ks ++ [k]) = pth ks ++ [V.int (k : Int)] := List.map_append
end TR

namespace TR
open PySem PySem.Spec PyProof.Rows L2 GM
/-! ### pigeonholes -/
theorem nd_len {α : Type} [DecidableEq α] : ∀ {a b : List α}, a.Nodup → (∀ x ∈ a, x ∈ b) → a.length ≤ b.length
  | [], _, _, _ => Nat.zero_le _
  | x :: a, b, h, s => by
    rw [List.nodup_cons] at h
    have m := s x (List.mem_cons_self ..)
    have := nd_len (a := a) (b := b.erase x) h.2 fun y hy => by
      have ne : y ≠ x := fun e => h.1 (e ▸ hy)
      exact (List.mem_erase_of_ne ne).mpr (s y (List.mem_cons_of_mem _ hy))
    have l := List.length_erase_of_mem m
    have p := List.length_pos_of_mem m
    rw [List.length_cons]
    omega
theorem nd_all {α : Type} [DecidableEq α] {a b : List α} (h : a.Nodup) (s : ∀ x ∈ a, x ∈ b) (l : b.length ≤ a.length) : ∀ x ∈ b, x ∈ a := by
  intro x hx
  by_cases m : x ∈ a
  · exact m
  · have := nd_len (a := x :: a) (b := b) (List.nodup_cons.mpr ⟨m, h⟩) fun y hy => by
      rcases List.mem_cons.mp hy with e | e
      · exact e ▸ hx
      · exact s y e
    rw [List.length_cons] at this
    omega
/-! ### trees told by how many parts lie at each path -/
def Vp (ch : List Nat → Nat) : List Nat → Prop
  | [] => True
  | k :: r => k < ch [] ∧ Vp (fun q => ch (k :: q)) r
theorem Vp.app {k : Nat} : ∀ {ch : List Nat → Nat} {p : List Nat}, Vp ch (p ++ [k]) ↔ Vp ch p ∧ k < ch p
  | ch, [] => by simp [Vp]
  | ch, j :: r => by
    show (j < ch [] ∧ Vp (fun q => ch (j :: q)) (r ++ [k])) ↔ (j < ch [] ∧ Vp (fun q => ch (j :: q)) r) ∧ k < ch (j :: r)
    rw [Vp.app]
    exact ⟨fun ⟨a, b, c⟩ => ⟨⟨a, b⟩, c⟩, fun ⟨⟨a, b⟩, c⟩ => ⟨a, b, c⟩⟩
/-- the paths of a tree, a recipe ahead of its parts -/
def pre (ch : List Nat → Nat) : Nat → List Nat → List (List Nat)
  | 0, _ => []
  | n + 1, p => p :: (List.range (ch p)).flatMap fun k => pre ch n (p ++ [k])
theorem pre_under {ch : List Nat → Nat} : ∀ {n : Nat} {p q : List Nat}, q ∈ pre ch n p → p <+: q
  | 0, _, _, h => nomatch h
  | n + 1, p, q, h => by
    rcases List.mem_cons.mp h with rfl | h
    · exact List.prefix_rfl
    · obtain ⟨k, _, hk⟩ := List.mem_flatMap.mp h
      exact List.IsPrefix.trans (List.prefix_append p [k]) (pre_under hk)
theorem pre_valid {ch : List Nat → Nat} : ∀ {n : Nat} {p q : List Nat}, Vp ch p → q ∈ pre ch n p → Vp ch q
  | 0, _, _, _, h => nomatch h
  | n + 1, p, q, v, h => by
    rcases List.mem_cons.mp h with rfl | h
    · exact v
    · obtain ⟨k, hk', hk⟩ := List.mem_flatMap.mp h
      exact pre_valid (Vp.app.mpr ⟨v, List.mem_range.mp hk'⟩) hk
theorem pre_has {ch : List Nat → Nat} : ∀ {t : List Nat} {n : Nat} {p : List Nat}, Vp ch (p ++ t) → t.length < n → p ++ t ∈ pre ch n p
  | [], 0, _, _, h => absurd h (by decide)
  | [], n + 1, p, _, _ => by rw [List.append_nil]; exact List.mem_cons_self ..
  | _ :: _, 0, _, _, h => absurd h (by simp)
  | k :: t, n + 1, p, v, h => by
    have e : p ++ k :: t = (p ++ [k]) ++ t := by simp
    rw [e] at v ⊢
    have vk : Vp ch (p ++ [k]) := by
      have : ∀ {t : List Nat} {q : List Nat}, Vp ch (q ++ t) → Vp ch q := fun {t} => by
        induction t with
        | nil => intro q h; simpa using h
        | cons a t ih =>
          intro q h
          have e : q ++ a :: t = (q ++ [a]) ++ t := by simp
          rw [e] at h
          exact (Vp.app.mp (ih h)).1
      exact this v
    refine List.mem_cons_of_mem _ (List.mem_flatMap.mpr ⟨k, List.mem_range.mpr (Vp.app.mp vk).2, pre_has v ?_⟩)
    rw [List.length_cons] at h
    omega
theorem pfx_snoc {p q : List Nat} {i j : Nat} (h1 : p ++ [i] <+: q) (h2 : p ++ [j] <+: q) : i = j := by
  obtain ⟨a, ha⟩ := h1
  obtain ⟨b, hb⟩ := h2
  rw [← hb, List.append_assoc, List.append_assoc] at ha
  have := List.append_cancel_left ha
  simp at this
  exact this.1
theorem pfx_no {p : List Nat} {i : Nat} (h : p ++ [i] <+: p) : False := by
  have := h.length_le
  simp at this
  omega
theorem nodup_flat {α β : Type} {f : α → List β} : ∀ {l : List α}, l.Nodup → (∀ x ∈ l, (f x).Nodup) → (∀ x y b, b ∈ f x → b ∈ f y → x = y) → (l.flatMap f).Nodup
  | [], _, _, _ => List.nodup_nil
  | a :: l, h, h1, h2 => by
    rw [List.nodup_cons] at h
    rw [List.flatMap_cons, List.nodup_append]
    refine ⟨h1 a (List.mem_cons_self ..), nodup_flat h.2 (fun x hx => h1 x (List.mem_cons_of_mem _ hx)) h2, fun x hx y hy e => ?_⟩
    subst e
    obtain ⟨z, hz, hz'⟩ := List.mem_flatMap.mp hy
    exact h.1 (h2 a z x hx hz' ▸ hz)
theorem pre_nodup {ch : List Nat → Nat} : ∀ {n : Nat} {p : List Nat}, (pre ch n p).Nodup
  | 0, _ => List.nodup_nil
  | n + 1, p => by
    refine List.nodup_cons.mpr ⟨fun h => ?_, nodup_flat List.nodup_range (fun _ _ => pre_nodup) fun x y b h1 h2 => pfx_snoc (pre_under h1) (pre_under h2)⟩
    obtain ⟨k, _, hk⟩ := List.mem_flatMap.mp h
    exact pfx_no (pre_under hk)
/-- needs, and how deep -/
structure TT (ch : List Nat → Nat) (nd : List Nat → Int) (N : Nat) : Prop where
  deep : ∀ p, Vp ch p → p.length < N
  zero : ∀ p, Vp ch p → ch p = 0 → nd p = 0
  need : ∀ p, Vp ch p → 1 ≤ ch p → Nd ((List.range (ch p)).map fun k => nd (p ++ [k])) (nd p)
/-! ### steps: the paths in the order in which they go -/
abbrev pk (ks : List Nat) : List Key := ks.map fun (k : Nat) => Sum.inl (k : Int)
theorem pk_inj {a b : List Nat} (h : pk a = pk b) : a = b := by
  have e : ∀ {a b : List Nat}, pk a = pk b → a = b := fun {a} => by
    induction a with
    | nil => intro b h; cases b with
      | nil => rfl
      | cons _ _ => simp [pk] at h
    | cons x a ih =>
      intro b h
      cases b with
      | nil => simp [pk] at h
      | cons y b =>
        have h' : (Sum.inl (x : Int) : Key) :: pk a = Sum.inl (y : Int) :: pk b := h
        injection h' with h1 h2
        injection h1 with h1
        rw [ih h2]
        congr 1
        omega
  exact e h
theorem pk_kV (ks : List Nat) : (pk ks).map kV = pth ks := by
  rw [List.map_map]
  rfl
def hvS (ch : List Nat → Nat) (kvs : List (List Key × V)) (p : List Nat) : List (List Key × V) := putK (if ch p = 0 then kvs else dropK kvs (pk p)) (pk p.dropLast) (.bl true)
/-- the dict of what is had, behind the steps g -/
def hv (ch : List Nat → Nat) (g : List (List Nat)) : List (List Key × V) := g.foldl (hvS ch) []
theorem hv_snoc {ch : List Nat → Nat} {g : List (List Nat)} {p : List Nat} : hv ch (g ++ [p]) = hvS ch (hv ch g) p := by simp [hv]
def wdS (ch : List Nat → Nat) (s : List (List Key × V) × Int) (p : List Nat) : List (List Key × V) × Int := (hvS ch s.1 p, max s.2 ((hvS ch s.1 p).length : Int))
/-- the most that are had at one time -/
def wd (ch : List Nat → Nat) (g : List (List Nat)) : Int := (g.foldl (wdS ch) ([], 0)).2
theorem wd_fst {ch : List Nat → Nat} : ∀ {g : List (List Nat)} {s : List (List Key × V) × Int}, (g.foldl (wdS ch) s).1 = g.foldl (hvS ch) s.1
  | [], _ => rfl
  | p :: g, s => wd_fst (g := g) (s := wdS ch s p)
theorem wd_snoc {ch : List Nat → Nat} {g : List (List Nat)} {p : List Nat} : wd ch (g ++ [p]) = max (wd ch g) ((hv ch (g ++ [p])).length : Int) := by
  unfold wd
  rw [List.foldl_append]
  show max (g.foldl (wdS ch) ([], 0)).2 ((hvS ch (g.foldl (wdS ch) ([], 0)).1 p).length : Int) = _
  rw [wd_fst, hv_snoc]
  rfl
theorem wd_pre {ch : List Nat → Nat} {g : List (List Nat)} : ∀ {a : List (List Nat)}, a <+: g → ((hv ch a).length : Int) ≤ wd ch g := by
  have base : ∀ {b : List (List Nat)} {a : List (List Nat)}, ((hv ch a).length : Int) ≤ wd ch a → ((hv ch a).length : Int) ≤ wd ch (a ++ b) := fun {b} => by
    induction b with
    | nil => intro a h; simpa using h
    | cons x b ih =>
      intro a h
      have e : a ++ x :: b = (a ++ [x]) ++ b := by simp
      have := ih (a := a ++ [x]) (by rw [wd_snoc]; omega)
      have m : wd ch a ≤ wd ch (a ++ [x]) := by rw [wd_snoc]; omega
      have mono : ∀ {b a : List (List Nat)}, wd ch a ≤ wd ch (a ++ b) := fun {b} => by
        induction b with
        | nil => intro a; simp
        | cons y b ih =>
          intro a
          have e : a ++ y :: b = (a ++ [y]) ++ b := by simp
          rw [e]
          have := ih (a := a ++ [y])
          rw [wd_snoc] at this
          omega
      rw [e]
      have := mono (b := b) (a := a ++ [x])
      omega
  intro a h
  obtain ⟨b, rfl⟩ := h
  refine base ?_
  cases e : a.reverse with
  | nil =>
    have : a = [] := List.reverse_eq_nil_iff.mp e
    subst this
    exact Int.le_refl _
  | cons x i =>
    have : a = i.reverse ++ [x] := by have := congrArg List.reverse e; simpa using this
    rw [this, wd_snoc]
    omega
/-- steps by the rules: each path once, below the root, its parts ahead of it -/
def Lg (ch : List Nat → Nat) (g : List (List Nat)) : Prop := ∀ a p b, g = a ++ p :: b → Vp ch p ∧ p ≠ [] ∧ p ∉ a ∧ ∀ k, k < ch p → p ++ [k] ∈ a
theorem Lg.nil {ch : List Nat → Nat} : Lg ch [] := fun a p b h => by simp at h
theorem Lg.snoc {ch : List Nat → Nat} {g : List (List Nat)} {p : List Nat} (h : Lg ch g) (v : Vp ch p) (ne : p ≠ []) (n : p ∉ g) (c : ∀ k, k < ch p → p ++ [k] ∈ g) : Lg ch (g ++ [p]) := fun a q b e => by
  rcases List.append_eq_append_iff.mp e with ⟨as, e1, e2⟩ | ⟨bs, e1, e2⟩
  · cases as with
    | nil =>
      simp at e1 e2
      obtain ⟨rfl, rfl⟩ := e2
      subst e1
      exact ⟨v, ne, n, c⟩
    | cons x xs => simp at e2
  · cases bs with
    | nil =>
      simp at e1 e2
      obtain ⟨rfl, rfl⟩ := e2
      subst e1
      exact ⟨v, ne, n, c⟩
    | cons x xs =>
      simp at e2
      obtain ⟨rfl, e3⟩ := e2
      exact h a q xs e1
theorem Lg.pre {ch : List Nat → Nat} {g a : List (List Nat)} (h : Lg ch g) (p : a <+: g) : Lg ch a := fun x q y e => by
  obtain ⟨b, rfl⟩ := p
  exact h x q (y ++ b) (by rw [e]; simp)
theorem Lg.init {ch : List Nat → Nat} {g : List (List Nat)} {p : List Nat} (h : Lg ch (g ++ [p])) : Lg ch g := h.pre (List.prefix_append ..)
theorem Lg.mem {ch : List Nat → Nat} {g : List (List Nat)} {p : List Nat} (h : Lg ch g) (m : p ∈ g) : Vp ch p ∧ p ≠ [] ∧ ∀ k, k < ch p → p ++ [k] ∈ g := by
  obtain ⟨a, b, rfl⟩ := List.append_of_mem m
  have := h a p b rfl
  exact ⟨this.1, this.2.1, fun k hk => List.mem_append_left _ (this.2.2.2 k hk)⟩
theorem Lg.nodup {ch : List Nat → Nat} : ∀ {g : List (List Nat)}, Lg ch g → g.Nodup := fun {g} => by
  have : ∀ n (g : List (List Nat)), g.length = n → Lg ch g → g.Nodup := fun n => by
    induction n with
    | zero => intro g e h; have : g = [] := List.length_eq_zero_iff.mp e; subst this; exact List.nodup_nil
    | succ n ih =>
      intro g e h
      cases er : g.reverse with
      | nil => have : g = [] := List.reverse_eq_nil_iff.mp er; subst this; exact List.nodup_nil
      | cons x i =>
        have eg : g = i.reverse ++ [x] := by have := congrArg List.reverse er; simpa using this
        subst eg
        have := ih i.reverse (by simp at e; simpa using e) h.init
        rw [List.nodup_append]
        refine ⟨this, by simp, fun a ha b hb eab => ?_⟩
        have ex : b = x := by simpa using hb
        rw [eab, ex] at ha
        exact (h i.reverse x [] (by simp)).2.2.1 ha
  exact this _ g rfl
theorem valV_drop {kvs : List (List Key × V)} {k j : List Key} : valV (dropK kvs k) j = if j = k then none else valV kvs j := by
  induction kvs with
  | nil => unfold dropK valV; simp
  | cons p r ih =>
    unfold dropK at ih ⊢
    rw [List.filter_cons]
    by_cases e : p.1 = k
    · rw [if_neg (by simp [e]), ih]
      by_cases f : j = k
      · rw [if_pos f, if_pos f]
      · rw [if_neg f, if_neg f, valV_neg (fun z => f (z.symm.trans e))]
    · rw [if_pos (by simp [e])]
      by_cases f : p.1 = j
      · rw [valV_pos f, valV_pos f, if_neg (fun z => e (f.trans z))]
      · rw [valV_neg f, valV_neg f, ih]
/-- what is had: what a part has gone from, and has not gone itself -/
theorem hv_at {ch : List Nat → Nat} : ∀ {n : Nat} {g : List (List Nat)}, g.length = n → Lg ch g → ∀ q, valV (hv ch g) (pk q) = @ite (Option V) ((∃ k, q ++ [k] ∈ g) ∧ q ∉ g) (Classical.propDecidable _) (some (.bl true)) none := by
  intro n
  induction n with
  | zero =>
    intro g e h q
    have : g = [] := List.length_eq_zero_iff.mp e
    subst this
    rw [if_neg (by rintro ⟨⟨k, hk⟩, _⟩; simp at hk)]
    rfl
  | succ n ih =>
    intro g e h q
    cases er : g.reverse with
    | nil =>
      have : g = [] := List.reverse_eq_nil_iff.mp er
      subst this
      simp at e
    | cons x i =>
      have eg : g = i.reverse ++ [x] := by have := congrArg List.reverse er; simpa using this
      generalize i.reverse = g' at eg
      subst eg
      have ih' := ih (g := g') (by simpa using e) h.init
      obtain ⟨vx, nx, hx, cx⟩ := h g' x [] (by simp)
      rw [hv_snoc]
      unfold hvS
      rw [valV_put]
      obtain ⟨y, k, rfl⟩ : ∃ y k, x = y ++ [k] := ⟨x.dropLast, x.getLast nx, (List.dropLast_concat_getLast nx).symm⟩
      rw [List.dropLast_concat]
      have yx : y ∉ g' ++ [y ++ [k]] := fun m => by
        rcases List.mem_append.mp m with m | m
        · exact hx ((h.init.mem m).2.2 k (Vp.app.mp vx).2)
        · have : y = y ++ [k] := by simpa using m
          simp at this
      by_cases f : q = y
      · subst f
        rw [if_pos rfl, if_pos ⟨⟨k, by simp⟩, yx⟩]
      · rw [if_neg (fun z => f (pk_inj z))]
        have keep : valV (if ch (y ++ [k]) = 0 then hv ch g' else dropK (hv ch g') (pk (y ++ [k]))) (pk q) = if q = y ++ [k] then none else valV (hv ch g') (pk q) := by
          by_cases c0 : ch (y ++ [k]) = 0
          · rw [if_pos c0]
            by_cases fq : q = y ++ [k]
            · rw [if_pos fq, ih' q, if_neg]
              rintro ⟨⟨j, hj⟩, _⟩
              have := (Vp.app.mp (h.init.mem hj).1).2
              rw [fq, c0] at this
              exact absurd this (by omega)
            · rw [if_neg fq]
          · rw [if_neg c0, valV_drop]
            by_cases fq : q = y ++ [k]
            · rw [if_pos fq, if_pos (by rw [fq])]
            · rw [if_neg fq, if_neg (fun z => fq (pk_inj z))]
        rw [keep]
        by_cases fq : q = y ++ [k]
        · rw [if_pos fq, if_neg]
          rintro ⟨_, hn⟩
          exact hn (by rw [fq]; simp)
        · rw [if_neg fq, ih' q]
          have e1 : (∃ j, q ++ [j] ∈ g' ++ [y ++ [k]]) ↔ ∃ j, q ++ [j] ∈ g' := by
            constructor
            · rintro ⟨j, hj⟩
              rcases List.mem_append.mp hj with hj | hj
              · exact ⟨j, hj⟩
              · have e : q ++ [j] = y ++ [k] := by simpa using hj
                have := List.append_inj_left' e rfl
                exact absurd this f
            · rintro ⟨j, hj⟩
              exact ⟨j, List.mem_append_left _ hj⟩
          have e2 : q ∉ g' ++ [y ++ [k]] ↔ q ∉ g' := by
            constructor
            · intro h m; exact h (List.mem_append_left _ m)
            · intro h m
              rcases List.mem_append.mp m with m | m
              · exact h m
              · exact fq (by simpa using m)
          by_cases c : (∃ j, q ++ [j] ∈ g') ∧ q ∉ g'
          · rw [if_pos c, if_pos ⟨e1.mpr c.1, e2.mpr c.2⟩]
          · rw [if_neg c, if_neg (fun z => c ⟨e1.mp z.1, e2.mp z.2⟩)]
theorem valV_mem {kvs : List (List Key × V)} {k : List Key} {v : V} (h : valV kvs k = some v) : ∃ kv ∈ kvs, kv.1 = k := by
  unfold valV at h
  cases e : kvs.find? fun kv => decide (kv.1 = k) with
  | none => rw [e] at h; cases h
  | some kv => exact ⟨kv, List.mem_of_find?_eq_some e, by simpa using List.find?_some e⟩
theorem mem_valV {kvs : List (List Key × V)} {kv : List Key × V} (h : kv ∈ kvs) : (valV kvs kv.1).isSome := by
  rw [← valV_any]
  exact List.any_eq_true.mpr ⟨kv, h, by simp⟩
/-- all keys are paths -/
theorem hv_keys {ch : List Nat → Nat} : ∀ {n : Nat} {g : List (List Nat)}, g.length = n → ∀ kv ∈ hv ch g, ∃ q, kv.1 = pk q := by
  intro n
  induction n with
  | zero =>
    intro g e kv h
    have : g = [] := List.length_eq_zero_iff.mp e
    subst this
    exact nomatch h
  | succ n ih =>
    intro g e kv h
    cases er : g.reverse with
    | nil =>
      have : g = [] := List.reverse_eq_nil_iff.mp er
      subst this
      simp at e
    | cons x i =>
      have eg : g = i.reverse ++ [x] := by have := congrArg List.reverse er; simpa using this
      generalize i.reverse = g' at eg
      subst eg
      rw [hv_snoc] at h
      have ih' := ih (g := g') (by simpa using e)
      have d : ∀ kv ∈ (if ch x = 0 then hv ch g' else dropK (hv ch g') (pk x)), ∃ q, kv.1 = pk q := fun kv hk => by
        split at hk
        · exact ih' kv hk
        · exact ih' kv (List.mem_filter.mp hk).1
      unfold hvS at h
      generalize (if ch x = 0 then hv ch g' else dropK (hv ch g') (pk x)) = L at h d
      unfold putK at h
      split at h
      · obtain ⟨kv', m, rfl⟩ := List.mem_map.mp h
        split
        · exact d kv' m
        · exact d kv' m
      · rcases List.mem_append.mp h with h | h
        · exact d kv h
        · have : kv = (pk x.dropLast, .bl true) := by simpa using h
          exact ⟨_, by rw [this]⟩
def und (q : List Nat) (kv : List Key × V) : Bool := decide (pk q <+: kv.1)
theorem pk_pfx {a b : List Nat} : pk a <+: pk b ↔ a <+: b := by
  constructor
  · rintro ⟨t, ht⟩
    have e : pk a = pk (b.take a.length) := by
      rw [pk, pk, List.map_take]
      have : (pk b).take a.length = pk a := by
        rw [← ht, List.take_append_of_le_length (by simp)]
        exact List.take_of_length_le (by simp)
      exact this.symm
    rw [pk_inj e]
    exact List.take_prefix ..
  · rintro ⟨t, rfl⟩
    exact ⟨pk t, by simp [pk]⟩
theorem count_more {kvs : List (List Key × V)} {a b : List Nat} (h : b <+: a) {kv : List Key × V} (m : kv ∈ kvs) (h1 : und b kv = true) (h2 : und a kv = false) : kvs.countP (und a) + 1 ≤ kvs.countP (und b) := by
  have imp : ∀ kv, und a kv = true → und b kv = true := fun kv hk => by
    unfold und at hk ⊢
    rw [decide_eq_true_eq] at hk ⊢
    exact (pk_pfx.mpr h).trans hk
  induction kvs with
  | nil => exact nomatch m
  | cons x r ih =>
    rw [List.countP_cons, List.countP_cons]
    rcases List.mem_cons.mp m with e | e
    · subst e
      rw [h1, h2]
      have : r.countP (und a) ≤ r.countP (und b) := List.countP_mono_left fun x _ => imp x
      simp
      omega
    · have := ih e
      by_cases c : und a x = true
      · rw [c, imp x c]
        simp
        omega
      · simp only [Bool.not_eq_true] at c
        rw [c]
        simp
        omega
theorem count_mono {kvs : List (List Key × V)} {a b : List Nat} (h : b <+: a) : kvs.countP (und a) ≤ kvs.countP (und b) := List.countP_mono_left fun kv _ hk => by
  unfold und at hk ⊢
  rw [decide_eq_true_eq] at hk ⊢
  exact (pk_pfx.mpr h).trans hk
/-- going up from what has gone to what has not -/
theorem climb {ch : List Nat → Nat} {a : List (List Nat)} {q : List Nat} {k : Nat} (h : Lg ch a) (nq : q ∉ a) : ∀ (n : Nat) (x : List Nat), x.length = n → q ++ [k] <+: x → x ∈ a → ∃ y, (y = q ∨ q ++ [k] <+: y) ∧ valV (hv ch a) (pk y) = some (.bl true) := by
  intro n
  induction n with
  | zero =>
    intro x e p
    have := p.length_le
    simp at this
    omega
  | succ n ih =>
    intro x e p m
    have nx : x ≠ [] := by intro z; subst z; simp at e
    obtain ⟨y, j, rfl⟩ : ∃ y j, x = y ++ [j] := ⟨x.dropLast, x.getLast nx, (List.dropLast_concat_getLast nx).symm⟩
    have side : y = q ∨ q ++ [k] <+: y := by
      obtain ⟨t, ht⟩ := p
      cases er : t.reverse with
      | nil =>
        have : t = [] := List.reverse_eq_nil_iff.mp er
        subst this
        rw [List.append_nil] at ht
        exact .inl (List.append_inj_left' ht rfl).symm
      | cons z i =>
        have et : t = i.reverse ++ [z] := by have := congrArg List.reverse er; simpa using this
        rw [et, ← List.append_assoc] at ht
        exact .inr ⟨i.reverse, List.append_inj_left' ht rfl⟩
    by_cases my : y ∈ a
    · rcases side with rfl | side
      · exact absurd my nq
      · exact ih y (by simpa using e) side my
    · exact ⟨y, side, by rw [hv_at rfl h, if_pos ⟨⟨j, m⟩, my⟩]⟩
theorem und_self {kvs : List (List Key × V)} {q y : List Nat} (h : valV kvs (pk y) = some (.bl true)) (p : q <+: y) : ∃ kv ∈ kvs, und q kv = true ∧ kv.1 = pk y := by
  obtain ⟨kv, m, e⟩ := valV_mem h
  exact ⟨kv, m, by unfold und; rw [decide_eq_true_eq, e]; exact pk_pfx.mpr p, e⟩
theorem narrow {ch : List Nat → Nat} {nd : List Nat → Int} {N : Nat} {g : List (List Nat)} (t : TT ch nd N) (l : Lg ch g) (all : ∀ p, Vp ch p → p ≠ [] → p ∈ g) :
    ∀ (n : Nat) (q : List Nat), N ≤ q.length + n → Vp ch q → 1 ≤ ch q → ∃ a, a <+: g ∧ q ∉ a ∧ nd q ≤ ((hv ch a).countP (und q) : Nat) := by
  intro n
  induction n with
  | zero =>
    intro q e v
    have := t.deep q v
    omega
  | succ n ih =>
    intro q e v c
    have hd := t.need q v c
    have d1 := hd.pos
    have kid : ∀ k, k < ch q → 1 ≤ nd (q ++ [k]) → ∃ a, a <+: g ∧ q ++ [k] ∉ a ∧ nd (q ++ [k]) ≤ ((hv ch a).countP (und (q ++ [k])) : Nat) := fun k hk h1 => by
      have vk : Vp ch (q ++ [k]) := Vp.app.mpr ⟨v, hk⟩
      refine ih (q ++ [k]) (by simp; omega) vk ?_
      by_cases z : ch (q ++ [k]) = 0
      · have := t.zero _ vk z
        omega
      · omega
    have up : ∀ {a k}, a <+: g → k < ch q → q ++ [k] ∉ a → q ∉ a := fun {a k} pa hk hn m => hn (((l.pre pa).mem m).2.2 k hk)
    by_cases m : nd q ∈ (List.range (ch q)).map fun k => nd (q ++ [k])
    · obtain ⟨k, hk, ek⟩ := List.mem_map.mp m
      have hk' := List.mem_range.mp hk
      obtain ⟨a, pa, na, ca⟩ := kid k hk' (by rw [ek]; exact d1)
      refine ⟨a, pa, up pa hk' na, ?_⟩
      have := count_mono (kvs := hv ch a) (a := q ++ [k]) (b := q) (List.prefix_append ..)
      omega
    · by_cases d2 : 2 ≤ nd q
      · obtain ⟨i, j, ij, hi, hj⟩ := hd.two d2 m
        have get : ∀ {i : Nat} {x : Int}, ((List.range (ch q)).map fun k => nd (q ++ [k]))[i]? = some x → i < ch q ∧ nd (q ++ [i]) = x := fun {i x} h => by
          rw [List.getElem?_map] at h
          have il : i < ch q := by
            rcases Nat.lt_or_ge i (ch q) with z | z
            · exact z
            · rw [List.getElem?_eq_none (by simpa using z)] at h
              cases h
          rw [List.getElem?_eq_getElem (by simpa using il)] at h
          simp at h
          exact ⟨il, h⟩
        obtain ⟨il, ei⟩ := get hi
        obtain ⟨jl, ej⟩ := get hj
        obtain ⟨a1, p1, n1, c1⟩ := kid i il (by omega)
        obtain ⟨a2, p2, n2, c2⟩ := kid j jl (by omega)
        -- the later time serves
        have core : ∀ {i j : Nat} {a1 a2 : List (List Nat)}, i ≠ j → j < ch q → a1 <+: a2 → a2 <+: g → q ++ [j] ∉ a2 → 1 ≤ (hv ch a1).countP (und (q ++ [i])) → nd q - 1 ≤ ((hv ch a2).countP (und (q ++ [j])) : Nat) → nd q ≤ ((hv ch a2).countP (und q) : Nat) := fun {i j a1 a2} ij jl p12 p2 n2 c1 c2 => by
          obtain ⟨kv, mk, uk⟩ := List.countP_pos_iff.mp (show 0 < _ from c1)
          obtain ⟨r, er⟩ := hv_keys rfl kv mk
          have hr : (valV (hv ch a1) (pk r)).isSome := er ▸ mem_valV mk
          rw [hv_at rfl (l.pre (p12.trans p2))] at hr
          have hr' : (∃ k, r ++ [k] ∈ a1) ∧ r ∉ a1 := by
            by_cases z : (∃ k, r ++ [k] ∈ a1) ∧ r ∉ a1
            · exact z
            · rw [if_neg z] at hr; cases hr
          obtain ⟨⟨x, hx⟩, _⟩ := hr'
          have ur : q ++ [i] <+: r := by
            unfold und at uk
            rw [decide_eq_true_eq, er] at uk
            exact pk_pfx.mp uk
          have nq : q ∉ a2 := up p2 jl n2
          obtain ⟨y, hy, vy⟩ := climb (l.pre p2) nq _ (r ++ [x]) rfl (ur.trans (List.prefix_append ..)) (p12.subset hx)
          have qy : q <+: y := by
            rcases hy with rfl | hy
            · exact List.prefix_rfl
            · exact List.IsPrefix.trans (List.prefix_append ..) hy
          obtain ⟨kv', mk', u1, ek⟩ := und_self vy qy
          have u2 : und (q ++ [j]) kv' = false := by
            unfold und
            rw [decide_eq_false_iff_not, ek, pk_pfx]
            intro z
            rcases hy with rfl | hy
            · exact pfx_no z
            · exact ij (pfx_snoc hy z)
          have := count_more (kvs := hv ch a2) (a := q ++ [j]) (b := q) (List.prefix_append ..) mk' u1 u2
          omega
        rcases List.prefix_or_prefix_of_prefix p1 p2 with pp | pp
        · exact ⟨a2, p2, up p2 jl n2, core (i := i) (j := j) (by omega) jl pp p2 n2 (by omega) (by omega)⟩
        · exact ⟨a1, p1, up p1 il n1, core (i := j) (j := i) (by omega) il pp p1 n1 (by omega) (by omega)⟩
      · have vk : Vp ch (q ++ [0]) := Vp.app.mpr ⟨v, by omega⟩
        obtain ⟨a, b, eg⟩ := List.append_of_mem (all _ vk (by simp))
        have lk := l a _ b eg
        have pa : a ++ [q ++ [0]] <+: g := ⟨b, by rw [eg]; simp⟩
        have nq : q ∉ a ++ [q ++ [0]] := fun mq => by
          rcases List.mem_append.mp mq with mq | mq
          · exact lk.2.2.1 (((l.pre ((List.prefix_append a [q ++ [0]]).trans pa)).mem mq).2.2 0 (by omega))
          · have : q = q ++ [0] := by simpa using mq
            simp at this
        refine ⟨_, pa, nq, ?_⟩
        have vq : valV (hv ch (a ++ [q ++ [0]])) (pk q) = some (.bl true) := by rw [hv_at rfl (l.pre pa), if_pos ⟨⟨0, by simp⟩, nq⟩]
        obtain ⟨kv, m, u, _⟩ := und_self vq (List.prefix_rfl (l := q))
        have := List.countP_pos_iff.mpr ⟨kv, m, u⟩
        omega
theorem narrowest {ch : List Nat → Nat} {nd : List Nat → Int} {N : Nat} {g : List (List Nat)} (t : TT ch nd N) (l : Lg ch g) (all : ∀ p, Vp ch p → p ≠ [] → p ∈ g) (c : 1 ≤ ch []) : nd [] ≤ wd ch g := by
  obtain ⟨a, pa, _, ca⟩ := narrow t l all N [] (by simp) trivial c
  have h1 := wd_pre (ch := ch) pa
  have h2 : (hv ch a).countP (und []) ≤ (hv ch a).length := List.countP_le_length
  omega
end TR

namespace TR
open PySem PySem.Spec PyProof.Rows L2 GM
/-! ### a tree in the heap, told by its paths -/
def Hd (H : Hp) : Nat → V → (List Nat → Nat) → (List Nat → Int) → Prop
  | 0, _, _, _ => False
  | n + 1, v, ch, nd => (∃ (p m : Addr) (x : Str), v = .ref p ∧ H p = some (.tup [.str "ware", .str x, .ref m]) ∧ ch [] = 0 ∧ nd [] = 0) ∨
    (∃ (p m q : Addr) (x : Str) (vs : List V), v = .ref p ∧ H p = some (.tup [.str "recipe", .str x, .ref m, .ref q]) ∧ H q = some (.tup vs) ∧ 1 ≤ vs.length ∧ vs.length < 64 ∧ ch [] = vs.length ∧
      Nd ((List.range vs.length).map fun k => nd [k]) (nd []) ∧ ∀ (k : Nat) c, vs[k]? = some c → Hd H n c (fun r => ch (k :: r)) (fun r => nd (k :: r)))
theorem Hd.keep {H H' : Hp} (t : Tk H H') : ∀ {n : Nat} {v : V} {ch : List Nat → Nat} {nd : List Nat → Int}, Hd H n v ch nd → Hd H' n v ch nd
  | 0, _, _, _, h => h
  | n + 1, v, ch, nd, h => by
    rcases h with ⟨p, m, x, e, hp, r⟩ | ⟨p, m, q, x, vs, e, hp, hq, l1, l2, c, hn, hc⟩
    · exact .inl ⟨p, m, x, e, t _ _ hp, r⟩
    · exact .inr ⟨p, m, q, x, vs, e, t _ _ hp, t _ _ hq, l1, l2, c, hn, fun k c hk => (hc k c hk).keep t⟩
theorem pre_shift {k : Nat} {ch : List Nat → Nat} : ∀ {n : Nat} {p : List Nat}, pre ch n (k :: p) = (pre (fun r => ch (k :: r)) n p).map (k :: ·)
  | 0, _ => rfl
  | n + 1, p => by
    show (k :: p) :: (List.range (ch (k :: p))).flatMap (fun j => pre ch n (k :: (p ++ [j]))) = (k :: p) :: List.map (k :: ·) ((List.range (ch (k :: p))).flatMap fun j => pre (fun r => ch (k :: r)) n (p ++ [j]))
    rw [List.map_flatMap]
    congr 2
    funext j
    exact pre_shift
theorem flat_len {α β : Type} {f : α → List β} : ∀ {l : List α}, (l.flatMap f).length = (l.map fun x => (f x).length).sum
  | [] => rfl
  | x :: l => by rw [List.flatMap_cons, List.length_append, List.map_cons, List.sum_cons, flat_len]
theorem Tr.hd {H : Hp} : ∀ {n : Nat} {v : V} {s : Nat} {d : Int}, Tr H n v s d → ∃ ch nd, Hd H n v ch nd ∧ nd [] = d ∧ (pre ch n []).length = s
  | 0, _, _, _, h => h.elim
  | n + 1, v, s, d, h => by
    rcases h with ⟨p, m, x, e, hp, am, rfl, rfl⟩ | ⟨p, m, q, x, cs, e, hp, hq, l1, l2, hc, rfl, hd, am⟩
    · exact ⟨fun _ => 0, fun _ => 0, .inl ⟨p, m, x, e, hp, rfl, rfl⟩, rfl, rfl⟩
    · have ih : ∀ k : Nat, ∃ (chk : List Nat → Nat) (ndk : List Nat → Int), ∀ c, cs[k]? = some c → Hd H n c.1 chk ndk ∧ ndk [] = c.2.2 ∧ (pre chk n []).length = c.2.1 := fun k => by
        cases ek : cs[k]? with
        | none => exact ⟨fun _ => 0, fun _ => 0, fun c h => nomatch h⟩
        | some c =>
          obtain ⟨a, b, h1, h2, h3⟩ := Tr.hd (hc c (List.mem_of_getElem? ek))
          exact ⟨a, b, fun c' h => by cases h; exact ⟨h1, h2, h3⟩⟩
      have ih2 := fun k => Classical.choose_spec (ih k)
      have ih3 := fun k => Classical.choose_spec (ih2 k)
      generalize hf : (fun k => Classical.choose (ih k)) = chf at ih2 ih3
      generalize hg : (fun k => Classical.choose (ih2 k)) = ndf at ih3
      have ih4 : ∀ (k : Nat) c, cs[k]? = some c → Hd H n c.1 (chf k) (ndf k) ∧ ndf k [] = c.2.2 ∧ (pre (chf k) n []).length = c.2.1 := fun k => by
        have := ih3 k
        rw [← hg]
        rw [← hf]
        exact this
      refine ⟨fun r => match r with | [] => cs.length | k :: r => chf k r, fun r => match r with | [] => d | k :: r => ndf k r, .inr ⟨p, m, q, x, cs.map (·.1), e, hp, hq, by simpa using l1, by simpa using l2, by simp, ?_, ?_⟩, rfl, ?_⟩
      · have e : ((List.range (cs.map (·.1)).length).map fun k => ndf k []) = cs.map (·.2.2) := by
          apply List.ext_getElem?
          intro i
          rw [List.getElem?_map, List.getElem?_map, List.length_map]
          cases ek : cs[i]? with
          | none =>
            rw [List.getElem?_eq_none (by simpa using List.getElem?_eq_none_iff.mp ek)]
            rfl
          | some c =>
            have hl := (List.getElem?_eq_some_iff.mp ek).1
            rw [List.getElem?_eq_getElem (by simpa using hl)]
            simp
            exact (ih4 i c ek).2.1
        show Nd ((List.range (cs.map (·.1)).length).map fun k => ndf k []) d
        rw [e]
        exact hd
      · intro k c hk
        rw [List.getElem?_map] at hk
        cases ek : cs[k]? with
        | none => rw [ek] at hk; cases hk
        | some c' =>
          rw [ek] at hk
          cases hk
          exact (ih4 k c' ek).1
      · generalize ec : (fun r : List Nat => match r with | [] => cs.length | k :: r => chf k r) = ch
        have e0 : ch [] = cs.length := by rw [← ec]
        have e1 : ∀ k, (fun r => ch (k :: r)) = chf k := fun k => by rw [← ec]
        show ([] :: (List.range (ch [])).flatMap fun k => pre ch n [k]).length = _
        rw [List.length_cons, flat_len, e0]
        have e : ((List.range cs.length).map fun k => (pre ch n [k]).length) = cs.map (·.2.1) := by
          apply List.ext_getElem?
          intro i
          rw [List.getElem?_map, List.getElem?_map]
          cases ek : cs[i]? with
          | none =>
            rw [List.getElem?_eq_none (by simpa using List.getElem?_eq_none_iff.mp ek)]
            rfl
          | some c =>
            have hl := (List.getElem?_eq_some_iff.mp ek).1
            rw [List.getElem?_eq_getElem (by simpa using hl)]
            simp
            rw [pre_shift, List.length_map, e1]
            exact (ih4 i c ek).2.2
        rw [e]
        unfold szs
        omega
abbrev shf {α : Type} (ks : List Nat) (f : List Nat → α) : List Nat → α := fun r => f (ks ++ r)
theorem shf_snoc {α : Type} {ks : List Nat} {k : Nat} {f : List Nat → α} : (fun r => shf ks f (k :: r)) = shf (ks ++ [k]) f := by
  funext r
  show f (ks ++ k :: r) = f ((ks ++ [k]) ++ r)
  rw [List.append_assoc]
  rfl
theorem Hd.at {H : Hp} : ∀ {p : List Nat} {n : Nat} {v : V} {ch : List Nat → Nat} {nd : List Nat → Int}, Hd H n v ch nd → Vp ch p → ∃ m u, n = p.length + m ∧ AtP H v p u ∧ Hd H m u (shf p ch) (shf p nd)
  | [], n, v, ch, nd, h, _ => ⟨n, v, by simp, rfl, h⟩
  | k :: r, 0, v, ch, nd, h, _ => h.elim
  | k :: r, n + 1, v, ch, nd, h, ⟨kl, vr⟩ => by
    rcases h with ⟨p, m, x, e, hp, c0, _⟩ | ⟨p, m, q, x, vs, e, hp, hq, l1, l2, c, hn, hc⟩
    · omega
    · obtain ⟨c', hk⟩ : ∃ c', vs[k]? = some c' := ⟨_, List.getElem?_eq_getElem (by omega)⟩
      obtain ⟨m', u, en, ap, hu⟩ := (hc k c' hk).at vr
      exact ⟨m', u, by rw [List.length_cons]; omega, ⟨p, m, q, x, vs, c', e, hp, hq, hk, ap⟩, hu⟩
theorem Hd.tt {H : Hp} {n : Nat} {v : V} {ch : List Nat → Nat} {nd : List Nat → Int} (h : Hd H n v ch nd) : TT ch nd n := by
  refine ⟨fun p vp => ?_, fun p vp c0 => ?_, fun p vp c1 => ?_⟩
  · obtain ⟨m, u, e, _, hu⟩ := h.at vp
    cases m with
    | zero => exact hu.elim
    | succ m => omega
  · obtain ⟨m, u, e, _, hu⟩ := h.at vp
    cases m with
    | zero => exact hu.elim
    | succ m =>
      rcases hu with ⟨_, _, _, _, _, _, d⟩ | ⟨_, _, _, _, vs, _, _, _, l1, _, c, _⟩
      · have d' : nd (p ++ []) = 0 := d
        rwa [List.append_nil] at d'
      · have : ch (p ++ []) = vs.length := c
        rw [List.append_nil] at this
        omega
  · obtain ⟨m, u, e, _, hu⟩ := h.at vp
    cases m with
    | zero => exact hu.elim
    | succ m =>
      rcases hu with ⟨_, _, _, _, _, c, d⟩ | ⟨_, _, _, _, vs, _, _, _, l1, _, c, hn, _⟩
      · have : ch (p ++ []) = 0 := c
        rw [List.append_nil] at this
        omega
      · have c' : ch (p ++ []) = vs.length := c
        rw [List.append_nil] at c'
        rw [c']
        have : Nd ((List.range vs.length).map fun k => nd (p ++ [k])) (nd (p ++ [])) := hn
        rwa [List.append_nil] at this
/-- an entry of the list of paths: a path, and what lies there -/
def En (H : Hp) (ch : List Nat → Nat) (nd : List Nat → Int) (N : Nat) (e : Addr) (ks : List Nat) : Prop := ∃ (pa : Addr) (v : V) (n : Nat), H e = some (.tup [.ref pa, v]) ∧ H pa = some (.tup (pth ks)) ∧ Hd H n v (shf ks ch) (shf ks nd) ∧ ks.length + n = N
theorem En.keep {H H' : Hp} {ch : List Nat → Nat} {nd : List Nat → Int} {N : Nat} {e : Addr} {ks : List Nat} (h : En H ch nd N e ks) (t : Tk H H') : En H' ch nd N e ks := by
  obtain ⟨pa, v, n, h1, h2, h3, h4⟩ := h
  exact ⟨pa, v, n, t _ _ h1, t _ _ h2, h3.keep t, h4⟩
/-- what a pile of entries still brings, the last one first -/
def bri (ch : List Nat → Nat) (N : Nat) (es : List (Addr × List Nat)) : List (List Nat) := es.reverse.flatMap fun e => pre ch (N - e.2.length) e.2
theorem bri_snoc {ch : List Nat → Nat} {N : Nat} {es : List (Addr × List Nat)} {e : Addr} {ks : List Nat} : bri ch N (es ++ [(e, ks)]) = pre ch (N - ks.length) ks ++ bri ch N es := by simp [bri]
theorem bri_app {ch : List Nat → Nat} {N : Nat} {es fs : List (Addr × List Nat)} : bri ch N (es ++ fs) = bri ch N fs ++ bri ch N es := by simp [bri]
theorem bri_kids {ch : List Nat → Nat} {N n m : Nat} {ks : List Nat} : ∀ {fs : List (Addr × List Nat)} {j : Nat}, ks.length + (n + 1) = N → j + fs.length = m → fs.reverse.map (·.2) = (List.range' j fs.length).map (fun k => ks ++ [k]) → bri ch N fs = (List.range' j fs.length).flatMap fun k => pre ch n (ks ++ [k]) := fun {fs j} hN hm h => by
  unfold bri
  have e1 : (fs.reverse.flatMap fun e => pre ch (N - e.2.length) e.2) = (fs.reverse.map (·.2)).flatMap fun q => pre ch (N - q.length) q := by rw [List.flatMap_map]
  rw [e1, h, List.flatMap_map]
  congr 1
  funext k
  have : N - (ks ++ [k]).length = n := by simp; omega
  rw [this]
end TR

namespace K44
open PySem PySem.Spec PyProof.Rows L2 GM TM TR
def spPaths : Sp := fun vs H Q _ => ∃ (v : V) (ch : List Nat → Nat) (nd : List Nat → Int), vs = [v] ∧ Hd H 62 v ch nd ∧ (pre ch 62 []).length ≤ 100 ∧ ∀ (fs : List (Addr × List Nat)) l H', Same H H' → H l = none → H' l = some (.lst (fs.map fun f => .ref f.1)) → fs.map (·.2) = pre ch 62 [] → (∀ f ∈ fs, En H' ch nd 62 f.1 f.2) → Q (.ref l) H'
theorem en_len {H : Hp} {ch : List Nat → Nat} {nd : List Nat → Int} {es : List (Addr × List Nat)} (h : ∀ e ∈ es, En H ch nd 62 e.1 e.2) : es.length ≤ (bri ch 62 es).length := by
  have : ∀ {es : List (Addr × List Nat)}, (∀ e ∈ es, En H ch nd 62 e.1 e.2) → es.length ≤ (es.flatMap fun e => pre ch (62 - e.2.length) e.2).length := fun {es} => by
    induction es with
    | nil => intro _; exact Nat.zero_le _
    | cons e es ih =>
      intro h
      rw [List.flatMap_cons, List.length_append, List.length_cons]
      have := ih fun x hx => h x (List.mem_cons_of_mem _ hx)
      obtain ⟨pa, v, n, _, _, hd, en⟩ := h e (List.mem_cons_self ..)
      cases n with
      | zero => exact hd.elim
      | succ n =>
        have e1 : 62 - e.2.length = n + 1 := by omega
        rw [e1]
        show es.length + 1 ≤ ((List.range (ch e.2)).flatMap _).length + 1 + _
        omega
  have h2 := this (es := es.reverse) fun e he => h e (List.mem_reverse.mp he)
  rw [List.length_reverse] at h2
  exact h2
section
variable {P : Program} {w : World} {K : PySem.W.Frag} {mg : Str → Option Value} {base : Heap}
theorem scPaths : FnScope ["_law_root_here", "_law_found", "_law_pile", "_law_path", "_law_part", "_law_k"] ["_law_root_here"] (defScope sPaths) := ⟨rfl, rfl, rfl, by decide +kernel, rfl, by decide +kernel, by decide +kernel⟩
theorem ok_paths {f : Addr} {fd : FuncData} (F : Fun K "_law_paths" "_law_paths" sPaths f fd) (T : Txt mg) : FnOk P w K mg base CX0 1 f fd ["_law_root_here"] spPaths := by
  refine F.ok scPaths (fun vs H Q E h => ?_) (fun cdv A outer s H vs Q E hr h => ?_)
  · obtain ⟨_, _, _, rfl, _⟩ := h
    rfl
  · obtain ⟨root, ch, nd, rfl, hd0, n100, k⟩ := h
    refine ⟨_, (pss_cons (ps_set (i := 1) scPaths.nd rfl (Or.inl rfl) (pe_lst pa_nil))
      (pss_cons (ps_set (i := 2) scPaths.nd rfl (Or.inl rfl) (pe_lst (pa_cons (pe_tup (pa_cons (pe_tup pa_nil) (pa_cons (pv 0) pa_nil))) pa_nil)))
      (pss_cons (ps_while PassesOwn.never (pt_cmpR (op_neE hr.units) (pv 2) (pe_lst pa_nil) (nomark _))
        (pss_cons (ps_asg (pe_bm0 PySem.F.plainAttrs_list PySem.F.slot_list_pop PySem.F.type_list_pop mt_pop (pv 2)) (pg_tup rfl (pgs_cons (pg_name (i := 3) scPaths.nd rfl (Or.inl rfl)) (pgs_cons (pg_name (i := 4) scPaths.nd rfl (Or.inl rfl)) pgs_nil))))
      (pss_cons (ps_expr (pe_bm PySem.F.plainAttrs_list PySem.F.slot_list_append PySem.F.type_list_append mt_append (pv 1) (pa_cons (pe_tup (pa_cons (pv 3) (pa_cons (pv 4) pa_nil))) pa_nil)))
      (pss_one (ps_if (pt_cmpR op_eq (pit 4 0) pe_str (nomark _))
        (pss_one (ps_for PassesOwn.never rfl (pi_rev rfl T.rev' rfl T.range (pa_cons (pe_callB call_len_seq rfl T.len PySem.boot_len (pa_cons (pit 4 3) pa_nil)) pa_nil)) (pg_name (i := 5) scPaths.nd rfl (Or.inl rfl))
        (pss_one (ps_expr (pe_bm PySem.F.plainAttrs_list PySem.F.slot_list_append PySem.F.type_list_append mt_append (pv 2) (pa_cons (pe_tup (pa_cons (pe_op op_catTB (pv 3) (pe_tup (pa_cons (pv 5) pa_nil))) (pa_cons (pe_ix ix_tup (pit 4 3) (pv 5) (fun _ _ => rfl)) pa_nil))) pa_nil))))))
        pss_nil)))))
      (pss_one (ps_ret (pv 1)))))), ?_⟩
    refine ⟨(by show 0 ≤ sizeLine; decide), fun Fd nF => ⟨(by show 0 ≤ sizeLine; decide), fun e0 ne0 => ⟨_, rfl, (by show 2 ≤ sizeLine; decide), fun t0 nt0 => ⟨(by show 1 ≤ sizeLine; decide), fun Pl nP => ?_⟩⟩⟩⟩
    have smA : Same H (upd H Fd (.lst [])) := Same.upd nF
    have smB := smA.trans (Same.upd (o := .tup []) ne0)
    have smC := smB.trans (Same.upd (o := .tup [.ref e0, root]) nt0)
    have nP0 : H Pl = none := sm_none smC nP
    have ht0 : upd (upd (upd H Fd (.lst [])) e0 (.tup [])) t0 (.tup [.ref e0, root]) t0 = some (.tup [.ref e0, root]) := upd_same
    have he0 := (Same.upd (o := .tup [.ref e0, root]) nt0) _ _ (upd_same (H := upd H Fd (.lst [])) (a := e0) (o := .tup []))
    have hF0 := (Same.upd (o := .tup [.ref e0, root]) nt0) _ _ ((Same.upd (o := .tup []) ne0) _ _ (upd_same (H := H) (a := Fd) (o := .lst [])))
    generalize upd (upd (upd H Fd (.lst [])) e0 (.tup [])) t0 (.tup [.ref e0, root]) = H0 at smC nP ht0 he0 hF0 ⊢
    have FP : Fd ≠ Pl := fun e => by rw [← e, hF0] at nP; cases nP
    have sP : Same H0 (upd H0 Pl (.lst [.ref t0])) := Same.upd nP
    refine ⟨fun m σ H' => ∃ (es fs : List (Addr × List Nat)) (v3 v4 v5 : Option V), σ = [some root, some (.ref Fd), some (.ref Pl), v3, v4, v5] ∧ Same H H' ∧ H' Fd = some (.lst (fs.map fun f => .ref f.1)) ∧ H' Pl = some (.lst (es.map fun e => .ref e.1)) ∧
      (∀ e ∈ es, En H' ch nd 62 e.1 e.2) ∧ (∀ f ∈ fs, En H' ch nd 62 f.1 f.2) ∧ fs.map (·.2) ++ bri ch 62 es = pre ch 62 [] ∧ m = (bri ch 62 es).length,
      ⟨_, [(t0, [])], [], none, none, none, rfl, smC.trans sP, sP _ _ hF0, upd_same, fun e he => ?_, (fun _ h => nomatch h), ?_, rfl⟩, ?_⟩
    · rw [List.mem_singleton.mp he]
      exact ⟨e0, root, 62, sP _ _ ht0, sP _ _ he0, hd0.keep (smC.trans sP).tk, by simp⟩
    · show [] ++ bri ch 62 ([] ++ [(t0, [])]) = _
      rw [bri_snoc]
      simp [bri]
    rintro m σ H1 ⟨es, fs, v3, v4, v5, rfl, sm, hF, hP, he, hf, tot, rfl⟩
    refine ⟨_, rfl, (by show 0 ≤ sizeLine; decide), fun z hz => ?_⟩
    have sz := Same.upd (o := .lst []) hz
    have hF2 := sz _ _ hF
    have hP2 := sz _ _ hP
    have smz : Same H (upd H1 z (.lst [])) := sm.trans sz
    have he2 : ∀ e ∈ es, En (upd H1 z (.lst [])) ch nd 62 e.1 e.2 := fun e h => (he e h).keep sz.tk
    have hf2 : ∀ f ∈ fs, En (upd H1 z (.lst [])) ch nd 62 f.1 f.2 := fun f h => (hf f h).keep sz.tk
    have hz2 : upd H1 z (.lst []) z = some (.lst []) := upd_same
    generalize upd H1 z (.lst []) = H2 at hF2 hP2 smz he2 hf2 hz2 ⊢
    refine ⟨Pl, z, _, rfl, rfl, SqL.of hP2, SqL.of hz2, _, rfl, ?_⟩
    have alt : es = [] ∨ ∃ i x, es = i ++ [x] := by
      cases h : es.reverse with
      | nil => exact .inl (List.reverse_eq_nil_iff.mp h)
      | cons x i => exact .inr ⟨i.reverse, x, by have := congrArg List.reverse h; simpa using this⟩
    rcases alt with rfl | ⟨es, ⟨t, ks⟩, rfl⟩
    · refine iteF ⟨_, rfl, k fs Fd H2 smz nF hF2 ?_ hf2⟩
      rw [← tot]
      simp [bri]
    have ene : (!((es ++ [(t, ks)]).map fun e => V.ref e.1).isEmpty) = true := by simp
    rw [ene]
    refine iteT ⟨_, fun σ' H' h => h, ?_⟩
    have ed : ((es ++ [(t, ks)]).map fun e => V.ref e.1) = (es.map fun e => V.ref e.1) ++ [V.ref t] := by simp
    rw [ed] at hP2
    refine ⟨_, rfl, .inl ⟨rfl, _, SqL.of hP2⟩, Pl, _, .ref t, rfl, rfl, hP2, by simp, ?_⟩
    rw [List.dropLast_concat]
    obtain ⟨pa, v, n, ht, hpa, tr, ln⟩ := he2 (t, ks) (by simp)
    dsimp only at ht hpa tr ln
    have tk3 : Tk H2 (upd H2 Pl (.lst (es.map fun e => V.ref e.1))) := Tk.lst hP2
    have he3 : ∀ e ∈ es, En (upd H2 Pl (.lst (es.map fun e => V.ref e.1))) ch nd 62 e.1 e.2 := fun e h => (he2 e (by simp [h])).keep tk3
    have hf3 : ∀ f ∈ fs, En (upd H2 Pl (.lst (es.map fun e => V.ref e.1))) ch nd 62 f.1 f.2 := fun f h => (hf2 f h).keep tk3
    have sm3 : Same H (upd H2 Pl (.lst (es.map fun e => V.ref e.1))) := sm_own smz nP0
    have hF3 : upd H2 Pl (.lst (es.map fun e => V.ref e.1)) Fd = some (.lst (fs.map fun f => .ref f.1)) := by rw [upd_ne FP]; exact hF2
    have hP3 : upd H2 Pl (.lst (es.map fun e => V.ref e.1)) Pl = some (.lst (es.map fun e => V.ref e.1)) := upd_same
    replace ht := tk3 _ _ ht
    replace hpa := tk3 _ _ hpa
    replace tr := tr.keep tk3
    generalize upd H2 Pl (.lst (es.map fun e => V.ref e.1)) = H3 at he3 hf3 sm3 hF3 hP3 ht hpa tr ⊢
    rw [bri_snoc] at tot ⊢
    have tl := congrArg List.length tot
    rw [List.length_append, List.length_append, List.length_map] at tl
    rw [List.length_append]
    cases n with
    | zero => exact tr.elim
    | succ n =>
      have e62 : 62 - ks.length = n + 1 := by omega
      rw [e62] at tot tl ⊢
      have epre : pre ch (n + 1) ks = ks :: (List.range (ch ks)).flatMap fun k => pre ch n (ks ++ [k]) := rfl
      rw [epre] at tot tl ⊢
      rw [List.length_cons] at tl
      refine ⟨t, _, rfl, SqT.of ht, rfl, _, _, rfl, _, _, rfl, rfl, ?_⟩
      refine ⟨_, rfl, .inl ⟨rfl, _, SqL.of hF3⟩, _, rfl, _, rfl, (by show 2 ≤ sizeLine; decide), fun g ng => ?_⟩
      have sg := Same.upd (o := .tup [.ref pa, v]) ng
      have hFg := sg _ _ hF3
      refine ⟨Fd, _, _, rfl, rfl, hFg, small1000 (by rw [List.length_map]; omega), ?_⟩
      have gF : g ≠ Fd := fun e => by rw [e, hF3] at ng; cases ng
      have tk4 : Tk H3 (upd (upd H3 g (.tup [.ref pa, v])) Fd (.lst ((fs.map fun f => .ref f.1) ++ [.ref g]))) := sg.tk.trans (Tk.lst hFg)
      have hg4 : upd (upd H3 g (.tup [.ref pa, v])) Fd (.lst ((fs.map fun f => .ref f.1) ++ [.ref g])) g = some (.tup [.ref pa, v]) := by rw [upd_ne gF]; exact upd_same
      have hF4 : upd (upd H3 g (.tup [.ref pa, v])) Fd (.lst ((fs.map fun f => .ref f.1) ++ [.ref g])) Fd = some (.lst ((fs ++ [(g, ks)]).map fun f => .ref f.1)) := by rw [List.map_append]; exact upd_same
      have hP4 : upd (upd H3 g (.tup [.ref pa, v])) Fd (.lst ((fs.map fun f => .ref f.1) ++ [.ref g])) Pl = some (.lst (es.map fun e => V.ref e.1)) := by rw [upd_ne FP.symm]; exact sg _ _ hP3
      have sm4 : Same H (upd (upd H3 g (.tup [.ref pa, v])) Fd (.lst ((fs.map fun f => .ref f.1) ++ [.ref g]))) := sm_own (sm3.trans sg) nF
      have he4 : ∀ e ∈ es, En (upd (upd H3 g (.tup [.ref pa, v])) Fd (.lst ((fs.map fun f => .ref f.1) ++ [.ref g]))) ch nd 62 e.1 e.2 := fun e h => (he3 e h).keep tk4
      have hf4 : ∀ f ∈ fs ++ [(g, ks)], En (upd (upd H3 g (.tup [.ref pa, v])) Fd (.lst ((fs.map fun f => .ref f.1) ++ [.ref g]))) ch nd 62 f.1 f.2 := fun f h => by
        rcases List.mem_append.mp h with h | h
        · exact (hf3 f h).keep tk4
        · rw [List.mem_singleton.mp h]
          exact ⟨pa, v, n + 1, hg4, tk4 _ _ hpa, tr.keep tk4, ln⟩
      replace hpa := tk4 _ _ hpa
      replace tr := tr.keep tk4
      generalize upd (upd H3 g (.tup [.ref pa, v])) Fd (.lst ((fs.map fun f => .ref f.1) ++ [.ref g])) = H4 at hF4 hP4 sm4 he4 hf4 hpa tr ⊢
      have ech : shf ks ch [] = ch ks := by show ch (ks ++ []) = _; rw [List.append_nil]
      have efs : (fs ++ [(g, ks)]).map (·.2) = fs.map (·.2) ++ [ks] := by simp
      rcases tr with ⟨p, mm, x, rfl, hp, c0, _⟩ | ⟨p, mm, q, x, vs, rfl, hp, hq, l1, l2, cl, hnd, hc⟩
      · rw [ech] at c0
        rw [c0] at tot tl ⊢
        refine ⟨p, _, _, rfl, SqT.of hp, rfl, rfl, _, rfl, iteF ?_⟩
        refine ⟨(bri ch 62 es).length, ?_, es, fs ++ [(g, ks)], _, _, _, rfl, sm4, hF4, hP4, he4, hf4, ?_, rfl⟩
        · rw [List.length_cons]
          omega
        · rw [efs, List.append_assoc]
          exact tot
      · rw [ech] at cl
        rw [cl] at tot tl ⊢
        refine ⟨p, _, _, rfl, SqT.of hp, rfl, rfl, _, rfl, iteT ?_⟩
        refine ⟨p, _, _, rfl, SqT.of hp, rfl, q, _, rfl, .inr (SqT.of hq), _, rfl, by omega, by omega, ?_⟩
        rw [Int.toNat_natCast]
        refine for_range3 (fun j σ H' => ∃ (es' : List (Addr × List Nat)) (v5' : Option V), σ = [some root, some (.ref Fd), some (.ref Pl), some (.ref pa), some (.ref p), v5'] ∧ Same H H' ∧ Tk H4 H' ∧ H' Fd = some (.lst ((fs ++ [(g, ks)]).map fun f => .ref f.1)) ∧ H' Pl = some (.lst ((es ++ es').map fun e => .ref e.1)) ∧
          (∀ e ∈ es', En H' ch nd 62 e.1 e.2) ∧ es'.reverse.map (·.2) = (List.range' (vs.length - j) j).map (fun k => ks ++ [k]) ∧ es'.length = j) ⟨[], _, rfl, sm4, Tk.refl, hF4, by rw [List.append_nil]; exact hP4, (fun _ h => nomatch h), rfl, rfl⟩ ?_ ?_
        · rintro j σ H5 hj ⟨es', v5', rfl, sm5, tk5, hF5, hP5, he5, ez, el⟩
          obtain ⟨kk, hk⟩ : ∃ kk, vs.length = kk + 1 + j := ⟨vs.length - 1 - j, by omega⟩
          have ek : (vs.length : Int) - 1 + (j : Nat) * -1 = (kk : Int) := by omega
          rw [ek]
          obtain ⟨c, hck⟩ : ∃ x, vs[kk]? = some x := ⟨_, List.getElem?_eq_getElem (by omega)⟩
          refine ⟨_, rfl, .inl ⟨rfl, _, SqL.of hP5⟩, _, rfl, _, rfl, (by show 1 ≤ sizeLine; decide), fun o no => ?_⟩
          have so := Same.upd (o := .tup [.int (kk : Int)]) no
          refine ⟨pa, o, _, _, rfl, rfl, SqT.of (so _ _ (tk5 _ _ hpa)), upd_same, by simp, (by rw [List.length_map]; exact sz1000 (by show ks.length + 1 ≤ 1000; omega)), fun pb H6 s6 hpb => ?_⟩
          have s56 : Same H5 H6 := so.trans s6
          have tk6 := tk5.trans s56.tk
          refine ⟨p, _, _, rfl, SqT.of (tk6 _ _ hp), rfl, _, rfl, q, _, (kk : Int), c, rfl, rfl, SqT.of (tk6 _ _ hq), atI_nat hck, (by show 2 ≤ sizeLine; decide), fun z nz => ?_⟩
          have sz6 := Same.upd (o := .tup [.ref pb, c]) nz
          have hP6 := sz6 _ _ (s56 _ _ hP5)
          have el2 : (es ++ es').length ≤ 200 := by
            have h1 := en_len he4
            rw [List.length_append]
            omega
          refine ⟨Pl, _, _, rfl, rfl, hP6, small1000 (by rw [List.length_map]; omega), ?_⟩
          have zP : z ≠ Pl := fun e => by rw [e, s56 _ _ hP5] at nz; cases nz
          have tkB : Tk H6 (upd (upd H6 z (.tup [.ref pb, c])) Pl (.lst (((es ++ es').map fun e => V.ref e.1) ++ [.ref z]))) := sz6.tk.trans (Tk.lst hP6)
          have hzz : upd (upd H6 z (.tup [.ref pb, c])) Pl (.lst (((es ++ es').map fun e => V.ref e.1) ++ [.ref z])) z = some (.tup [.ref pb, c]) := by rw [upd_ne zP]; exact upd_same
          have smB : Same H (upd (upd H6 z (.tup [.ref pb, c])) Pl (.lst (((es ++ es').map fun e => V.ref e.1) ++ [.ref z]))) := sm_own ((sm5.trans s56).trans sz6) nP0
          have hPz : upd (upd H6 z (.tup [.ref pb, c])) Pl (.lst (((es ++ es').map fun e => V.ref e.1) ++ [.ref z])) Pl = some (.lst ((es ++ (es' ++ [(z, ks ++ [kk])])).map fun e => V.ref e.1)) := by
            rw [upd_same, ← List.append_assoc, List.map_append (l₂ := [(z, ks ++ [kk])])]
            rfl
          have hFz : upd (upd H6 z (.tup [.ref pb, c])) Pl (.lst (((es ++ es').map fun e => V.ref e.1) ++ [.ref z])) Fd = some (.lst ((fs ++ [(g, ks)]).map fun f => .ref f.1)) := by rw [upd_ne FP]; exact sz6 _ _ (s56 _ _ hF5)
          generalize upd (upd H6 z (.tup [.ref pb, c])) Pl (.lst (((es ++ es').map fun e => V.ref e.1) ++ [.ref z])) = H7 at tkB hzz smB hPz hFz ⊢
          have tk7 := tk6.trans tkB
          refine ⟨es' ++ [(z, ks ++ [kk])], _, rfl, smB, tk7, hFz, hPz, fun e h => ?_, ?_, by rw [List.length_append, el]; rfl⟩
          · rcases List.mem_append.mp h with h | h
            · exact (he5 e h).keep (s56.tk.trans tkB)
            · rw [List.mem_singleton.mp h]
              refine ⟨pb, c, n, hzz, tkB _ _ (by rw [pth, List.map_append]; exact hpb), ?_, by rw [List.length_append]; show ks.length + 1 + n = 62; omega⟩
              have := (hc kk c hck).keep tk7
              rw [shf_snoc, shf_snoc] at this
              exact this
          · have e1 : vs.length - (j + 1) = kk := by omega
            have e2 : vs.length - j = kk + 1 := by omega
            rw [e2] at ez
            rw [e1, List.reverse_append, List.map_append, ez, List.range'_succ, List.map_cons]
            rfl
        · rintro σ H5 ⟨es', v5', rfl, sm5, tk5, hF5, hP5, he5, ez, el⟩
          have e0 : vs.length - vs.length = 0 := by omega
          rw [e0] at ez
          have eb := bri_kids (ch := ch) (N := 62) (n := n) (m := vs.length) (ks := ks) (fs := es') (j := 0) (by omega) (by omega) (by rw [el]; exact ez)
          rw [el, ← List.range_eq_range'] at eb
          refine ⟨(bri ch 62 (es ++ es')).length, ?_, es ++ es', fs ++ [(g, ks)], _, _, _, rfl, sm5, hF5, hP5, fun e h => ?_, fun f h => (hf4 f h).keep tk5, ?_, rfl⟩
          · rw [bri_app, eb, List.length_append, List.length_cons]
            omega
          · rcases List.mem_append.mp h with h | h
            · exact (he4 e h).keep tk5
            · exact he5 e h
          · rw [bri_app, eb, efs, List.append_assoc]
            exact tot
end
end K44

namespace HT
open PySem PySem.Spec PyProof.Rows
section
variable {prog : Program} {w : World} {K : Type} [DecidableEq K] {knd : HeapKind prog w K} {A : Around} {E : Value → Shared → Prop} {s : Shared}
def withoutH (xs : List (K × Addr × Value)) (k : K) : List (K × Addr × Value) := xs.filter fun x => decide (x.1 ≠ k)
theorem get_of_atKey {xs : List (K × Addr × Value)} {k : K} {p : Addr × Value} (h : atKey xs k = some p) : ∃ j : Nat, xs[j]? = some (k, p) := by
  unfold atKey at h
  cases e : xs.find? fun x => decide (x.1 = k) with
  | none => rw [e] at h; cases h
  | some y =>
    rw [e] at h
    have h' : y.2 = p := by simpa using h
    have hy : y.1 = k := by simpa using List.find?_some e
    obtain ⟨j, hj⟩ := List.mem_iff_getElem?.mp (List.mem_of_find?_eq_some e)
    exact ⟨j, by rw [hj, ← hy, ← h']⟩
theorem erase_withoutH {xs : List (K × Addr × Value)} : ∀ {j : Nat} {k : K} {p : Addr × Value}, (xs.map (·.1)).Nodup → xs[j]? = some (k, p) → xs.eraseIdx j = withoutH xs k := by
  induction xs with
  | nil => intro j k p _ h; simp at h
  | cons x r ih =>
    intro j k p hn hj
    rw [List.map_cons, List.nodup_cons] at hn
    cases j with
    | zero =>
      simp at hj
      subst hj
      show r = withoutH ((k, p) :: r) k
      unfold withoutH
      rw [List.filter_cons, if_neg (by simp)]
      symm
      rw [List.filter_eq_self]
      intro y hy
      rw [decide_eq_true_eq]
      intro e
      exact hn.1 (List.mem_map.mpr ⟨y, hy, e⟩)
    | succ j =>
      rw [List.getElem?_cons_succ] at hj
      have hm : k ∈ r.map (·.1) := List.mem_map.mpr ⟨(k, p), List.mem_of_getElem? hj, rfl⟩
      have ne : x.1 ≠ k := fun e => hn.1 (e ▸ hm)
      rw [List.eraseIdx_cons_succ, ih hn.2 hj]
      unfold withoutH
      rw [List.filter_cons, if_pos (by simpa using ne)]
theorem takeOutH {d a : Addr} {xs : List (K × Addr × Value)} {k : K} {p : Addr × Value} {Q : Option DictEntry → Shared → Prop} (hu : knd.room A) (hkey : knd.is s.heap k a) (hm : s.heap.DictOfH knd d xs) (hp : atKey xs k = some p) (hsz : xs.length ≤ sizeLine)
    (h : ∀ e h', e.val = p.2 → h'.DictOfH knd d (withoutH xs k) → Heap.SameBut d s.heap h' → Q (some e) { s with heap := h', toks := s.toks + knd.draws k }) :
    wpAny (model prog w) A (Builtin.Dict.takeOut d (.ref a)) Q E s := by
  obtain ⟨o, es, ep, ho, hc, hd, he, his, hn⟩ := hm
  unfold Builtin.Dict.takeOut
  try with_reducible refine wpAny_holding ?_
  refine wpAny_bind (knd.pyHash hu hkey ?_)
  refine wpAny_bind (wpAny_dictFind_heap (s := { s with toks := s.toks + knd.draws k }) hu hkey ho hd he his hn (fun hno => ?_) fun j q hj => ?_)
  · rw [atKey_none_of_get hno] at hp
    cases hp
  · rw [atKey_of_get hn hj] at hp
    cases hp
    refine wpAny_bind (wpAny_dictEntries (s := { s with toks := s.toks + knd.draws k }) ho hd ?_)
    rw [entry_at he j, hj]
    refine wpAny_bind (wpAny_updateDictKeys (hz := by have e := size_of_entries he; omega) (s := { s with toks := s.toks + knd.draws k }) ho hd (wpAny_pure (h _ _ rfl ⟨_, _, ep + 1, Heap.get?_update_self _ ho (Obj.isFreed_of_dict (Obj.data_mapDictKeys hd _)),
      hc.mapDictKeys _, Obj.data_mapDictKeys hd _, ?_, ?_, ?_⟩ (Heap.SameBut.update ..))))
    · rw [← erase_withoutH hn hj]
      obtain ⟨l⟩ := es
      have he' : l = xs.map (entryOfKey knd) := he
      subst he'
      have em : ∀ (l : List (K × Addr × Value)) (j : Nat), (l.map (entryOfKey knd)).eraseIdx j = (l.eraseIdx j).map (entryOfKey knd) := fun l => by
        induction l with
        | nil => intro j; rfl
        | cons x l ih => intro j; cases j with
          | zero => rfl
          | succ j => show entryOfKey knd x :: (l.map (entryOfKey knd)).eraseIdx j = entryOfKey knd x :: _; rw [ih j]
      simp [em]
    · intro x hx
      exact knd.keeps (his x (List.mem_filter.mp hx).1) ho hd (Heap.SameBut.update ..)
    · exact hn.sublist (List.Sublist.map _ List.filter_sublist)
theorem meetsH_dict_pop (d a : Addr) : MeetsIn prog w (Builtin.«dict.pop» ⟨[.ref d, .ref a], []⟩) (fun A R s => knd.room A.in1 ∧ ∃ k xs p, knd.is s.heap k a ∧ s.heap.DictOfH knd d xs ∧ atKey xs k = some p ∧ xs.length ≤ sizeLine ∧
      ∀ h', h'.DictOfH knd d (withoutH xs k) → Heap.SameBut d s.heap h' → R (.ok (.ret p.2)) { s with heap := h', toks := s.toks + knd.draws k }) :=
  .of_wp fun A R s ⟨hu, k, xs, p, hkey, hm, hp, hsz, h⟩ => by
    unfold Builtin.«dict.pop»
    refine wpAny_bind ?_
    unfold Builtin.Dict.keyAndDefault
    refine wpAny_bind (wpAny_notOrdered_dict hm.typeIs ?_)
    show wpAny _ _ (pure (d, Value.ref a, none)) _ _ s
    refine wpAny_pure ?_
    have hpart : (keyPart (Value.ref a)).isSome = false := rfl
    simp only [hpart, Bool.false_eq_true, if_false]
    obtain ⟨o, es, ep, ho, hc, hd, he, his, hn⟩ := id hm
    refine wpAny_bind (wpAny_dictEntries ho hd (wpAny_bind (wpAny_pure ?_)))
    have hne : es.isEmpty = false := by
      obtain ⟨j, hj⟩ := get_of_atKey hp
      have e := size_of_entries he
      have : j < xs.length := (List.getElem?_eq_some_iff.mp hj).1
      cases q : es.isEmpty with
      | false => rfl
      | true => rw [Array.isEmpty_iff_size_eq_zero] at q; omega
    simp only [hne, Bool.false_eq_true, if_false]
    refine wpAny_bind (takeOutH hu hkey hm hp hsz fun e h' ev hm' hs' => ?_)
    simp only [Option.isNone_some, Bool.false_eq_true, if_false]
    exact wpAny_bind (wpAny_letGo (wpAny_pure ⟨e.val, rfl, by rw [ev]; exact h h' hm' hs'⟩))
theorem meetsH_dict_len (d : Addr) (hd : (d == sysModules) = false) : MeetsIn prog w (Builtin.«dict.__len__» ⟨[.ref d], []⟩) (fun _ R s => ∃ xs, s.heap.DictOfH knd d xs ∧ R (.ok (.ret (.int xs.length s.toks))) { s with toks := s.toks + 1 }) :=
  .of_wp fun A R s ⟨xs, hm, h⟩ => by
    obtain ⟨o, es, ep, ho, hc, hdat, he, his, hn⟩ := hm
    show wpAny _ _ (dictSize d >>= _) _ _ s
    unfold dictSize
    refine wpAny_bind (wpAny_bind (wpAny_dictEntries ho hdat (wpAny_pure ?_)))
    show wpAny _ _ (Builtin.Dict.pendingCount d >>= _) _ _ s
    refine wpAny_bind (wpAny_pendingCount_other hd ?_)
    refine wpAny_ret_mkInt ?_
    rw [Nat.add_zero, size_of_entries he]
    exact h
theorem len_bodyH {d : Addr} {xs : List (K × Addr × Value)} {Q : Value → Shared → Prop} (hd : (d == sysModules) = false) (hm : s.heap.DictOfH knd d xs) (hfit : (xs.length : Int) < 2 ^ 63)
    (h : Q (.int xs.length (s.toks + 1)) { s with toks := s.toks + 1 + 1 }) : wpAny (model prog w) A (Builtin.«len» ⟨[.ref d], []⟩) (fun fin s' => ∃ r, fin = .done (.ret r) ∧ Q r s') E s := by
  unfold Builtin.«len»
  refine wpAny_bind (m := oneArg "len" _) (wpAny_pure ?_)
  refine wpAny_bind (m := callSpecial? (.ref d) (Str.ofString "__len__")) (wpAny_callSpecial?_slot (name := Str.ofString "__len__") hm.typeIs F.slot_dict_len
    (call_meetsIn F.slot_dict_len hm.typeIs F.entry_dict_len (F.args_dict_len_1 _) (meetsH_dict_len (knd := knd) d hd) ⟨xs, hm, ?_⟩))
  show wpAny _ _ _ _ _ { s with toks := s.toks + 1 }
  refine wpAny_bind (wpAny_holding (wpAny_pure ?_))
  refine wpAny_bind (wpAny_letGo ?_)
  show wpAny _ _ (if ((xs.length : Nat) : Int) < 0 then _ else _) _ _ _
  rw [if_neg (by omega)]
  show wpAny _ _ (if ((xs.length : Nat) : Int) ≥ 2 ^ 63 then _ else _) _ _ _
  rw [if_neg (by omega)]
  exact wpAny_bind (wpAny_mkInt (wpAny_pure ⟨_, rfl, h⟩))
theorem call_lenH {d : Addr} {xs : List (K × Addr × Value)} {Q : Value → Shared → Prop} (hd : (d == sysModules) = false) (hm : s.heap.DictOfH knd d xs) (hfit : (xs.length : Int) < 2 ^ 63)
    (h : Q (.int xs.length (s.toks + 1)) { s with toks := s.toks + 1 + 1 }) : wpAny (model prog w) A (call (.builtin "len") [.ref d]) Q E s :=
  Calls.call_function_entry kind_len plain_len entry_len (args_len1 _) (len_bodyH hd hm hfit h)
end
end HT
namespace L2
open PySem PySem.Spec PyProof.Rows
theorem KT.drop {H : Hp} {kvs : List (List Key × V)} {xs : List (List Key × Addr × Value)} (r : KT H kvs xs) (k : List Key) : KT H (dropK kvs k) (HT.withoutH xs k) := by
  unfold dropK HT.withoutH
  induction r with
  | nil => exact .nil
  | @cons p q ps qs h t ih =>
    obtain ⟨h1, h2⟩ := h
    rw [List.filter_cons, List.filter_cons]
    by_cases e : p.1 = k
    · have a : ¬ decide (p.1 ≠ k) = true := by simp [e]
      have b : ¬ decide (q.1 ≠ k) = true := by simp [h1.symm.trans e]
      rw [if_neg a, if_neg b]; exact ih
    · have e' : ¬ q.1 = k := fun z => e (h1.trans z)
      have a : decide (p.1 ≠ k) = true := by simp [e]
      have b : decide (q.1 ≠ k) = true := by simp [e']
      rw [if_pos a, if_pos b]; exact .cons ⟨h1, h2⟩ ih
section
variable {X : Cx} {pins : List (Addr × Obj)} {σ : St} {H : Hp} {s : Shared} {a b : Addr} {kvs : List (List Key × V)} {k : List Key} {A : Around} {E : Value → Shared → Prop}
/-- d.pop(t), t a tuple, there -/
theorem dt_pop {v : V} {Q : Value → Shared → Prop} (hu : A.units + 1 < cLine) (I : Inv X pins σ H s) (e : H a = some (.dT kvs)) (eb : H b = some (.tup (k.map kV))) (l : valV kvs k = some v)
    (h : ∀ w' s', Inv X pins σ (upd H a (.dT (dropK kvs k))) s' → RelV v w' → Q w' s') : wpAny (model X.prog X.w) A (call (.builtin "dict.pop") [.ref a, .ref b]) Q E s := by
  obtain ⟨z, hd, xs, rel, dd⟩ := dt_of I.hok e
  obtain ⟨w', hw, rw'⟩ := RelO.some_of (v := v) (o := (atKey xs k).map (·.2)) (by rw [← l]; exact rel.val k)
  obtain ⟨p, hp, hp2⟩ := Option.map_eq_some_iff.mp hw
  refine call_meetsIn PySem.F.slot_dict_pop dd.typeIs PySem.F.entry_dict_pop (PySem.F.args_dict_pop_2 _ _) (HT.meetsH_dict_pop (knd := tupleKind (mixKind X.prog X.w)) a b)
    ⟨tupleKind_room_in1 hu, k, xs, p, key_of I.hok eb, dd, hp, by rw [← Paired.length rel]; exact z, fun h' dd' hs => ?_⟩
  rw [hp2]
  refine h w' _ ?_ rw'
  obtain ⟨q, es, ep, hq, h2, h3, h4, _, h5⟩ := dd'
  refine d_write I (by rw [e]; exact True.intro) hs ⟨q, hq⟩ ⟨Nat.le_trans (dropK_le kvs k) z, hd, _, (rel.drop k).keeps fun c ys ec => ?_, q, es, ep, hq, h2, h3, h4, h5⟩
  rw [upd_ne (ne_of ec e (fun z => nomatch z))]
  exact ec
/-- len(d), the keys tuples -/
theorem dt_len {Q : Value → Shared → Prop} (I : Inv X pins σ H s) (e : Rd H a (.dT kvs)) (h : ∀ t s', Inv X pins σ H s' → Q (.int kvs.length t) s') : wpAny (model X.prog X.w) A (call (.builtin "len") [.ref a]) Q E s := by
  obtain ⟨z, hd, xs, rel, dd⟩ := dt_rd I.hok e
  have hl := Paired.length rel
  refine HT.call_lenH hd dd (by rw [← hl]; rw [sizeLine_eq] at z; omega) ?_
  rw [← hl]
  exact h _ _ (I.tok _)
end
/-- d.pop(t) -/
def tDPopT (td ty : TE) : TE := fun σ H Q => td σ H fun x H1 => ∃ a, x = .ref a ∧ IsD H1 a ∧ ty σ H1 fun y H2 => ∃ kvs k b v, H2 a = some (.dT kvs) ∧ y = .ref b ∧ H2 b = some (.tup (k.map kV)) ∧ valV kvs k = some v ∧ Q v (upd H2 a (.dT (dropK kvs k)))
section
variable {X : Cx} {o e : Expr} {apos cpos : Pos} {td ty : TE}
theorem pe_dpopT (hu : X.A.units + 1 < cLine) (ho : PE X o td) (he : PE X e ty) (m : M1 X o "pop" apos e cpos) : PE X (.Call (.Attribute o "pop" apos) [e] [] cpos) (tDPopT td ty) := by
  intro pins s σ H Q I h
  refine wpAny_Call_method m.base m.few m.line PySem.F.plainAttrs_dict PySem.F.slot_dict_pop PySem.F.type_dict_pop (thn (ho pins s σ H _ I h) fun u s1 ⟨x, H1, I1, rx, a, ex, d, q1⟩ => ?_)
  subst ex
  obtain rfl : u = Value.ref a := rx
  obtain ⟨t1, t2, _⟩ := isD_at I1 d
  refine ⟨t1, t2, ?_⟩
  rw [m.trees]
  refine Calls.callWith_builtin rfl (Calls.evalArgs_plain (Calls.spliced_cons (thn (he pins s1 σ H1 _ I1 q1) fun iv s2 ⟨y, H2, I2, ry, kvs, k, b, v, ea, ey, eb, l, q2⟩ => Calls.spliced_nil ?_)))
  subst ey
  obtain rfl : iv = Value.ref b := ry
  exact dt_pop hu I2 ea eb l fun w' s3 I3 rw' => ⟨v, _, I3, rw', q2⟩
/-- len of a dict, of either kind -/
theorem call_lenD : CallR X (.builtin "len") (fun xs H Q => (∃ p kvs, xs = [.ref p] ∧ Rd H p (.dT kvs) ∧ Q (.int kvs.length) H) ∨ ∃ p kvs, xs = [.ref p] ∧ Rd H p (.dK kvs) ∧ Q (.int kvs.length) H) := by
  intro pins s σ H vs us Q I r h
  rcases h with ⟨p, kvs, rfl, e, q⟩ | ⟨p, kvs, rfl, e, q⟩
  · cases r with
    | cons r1 r2 =>
      cases r2
      obtain rfl := (show _ = Value.ref p from r1)
      exact dt_len I e fun t s' I' => ⟨.int _, H, I', ⟨t, rfl⟩, q⟩
  · cases r with
    | cons r1 r2 =>
      cases r2
      obtain rfl := (show _ = Value.ref p from r1)
      exact d_len I e fun t s' I' => ⟨.int _, H, I', ⟨t, rfl⟩, q⟩
end
end L2

namespace L2
open PySem PySem.Spec PyProof.Rows
/-! ### for over reversed(a list) -/
def Itv (K : PySem.W.Frag) (a : Addr) (n : Nat) : It :=
  ⟨fun i H => ∃ xs, SqL K H a xs ∧ xs.length = n ∧ i < n, fun i H x H' => H' = H ∧ ∀ xs, SqL K H a xs → xs[n - 1 - i]? = some x, fun i H => n ≤ i⟩
def iRevL (K : PySem.W.Frag) (ta : TA) : TI := fun σ H R => ta σ H fun vs H1 => ∃ a xs, vs = [.ref a] ∧ SqL K H1 a xs ∧ R (Itv K a xs.length) H1
end L2

namespace L2
open PySem PySem.Spec PyProof.Rows
end L2

namespace L2
open PySem PySem.Spec PyProof.Rows
end L2

namespace L2
open PySem PySem.Spec PyProof.Rows PySem.W
/-- a def of the text that may be called by its name with its last argument left out -/
structure Cal1 (P : Program) (w : World) (K : Frag) (mg : Str → Option Value) (base : Heap) (CX : CXT) (k : Nat) (x : Str) (ps : List Str) (sp : Sp) (dv : V) : Prop where
  ex : ∃ (f : Addr) (fd : FuncData) (u : Value), mg x = some (.ref f) ∧ keepIn K (.ref f) = true ∧ Binds K fd ps [u] ∧ RelV dv u ∧ FnOk P w K mg base CX k f fd ps sp
end L2

namespace L2
open PySem PySem.Spec PyProof.Rows
/-! ### loops whose turns know nothing of what comes behind -/
theorem for_listN {K : PySem.W.Frag} {a : Addr} {xs : List V} {g : TG} {tb : TS} {D : Ends} {σ : St} {H : Hp} (Pv : Nat → St → Hp → Prop) (h0 : Pv 0 σ H) (hl : ∀ i σ H, i ≤ xs.length → Pv i σ H → SqL K H a xs)
    (hs : ∀ i x σ H (D' : Ends), (∀ σ' H', Pv (i + 1) σ' H' → D'.nx σ' H') → xs[i]? = some x → Pv i σ H → g x σ H (tb D')) (hd : ∀ σ H, Pv xs.length σ H → D.nx σ H) :
    ∃ W : Nat → Nat → St → Hp → Prop, (∃ m, W 0 m σ H) ∧ ∀ i m σ H, W i m σ H →
      ((Itl K a).stop i H ∧ D.nx σ H) ∨ ((Itl K a).go i H ∧ ∃ N : St → Hp → Prop, (∀ σ' H', N σ' H' → ∃ m', m' < m ∧ W (i + 1) m' σ' H') ∧ ∀ x H', (Itl K a).yld i H x H' → g x σ H' fun σ2 H2 => tb { D with nx := N, ct := N, bk := D.nx } σ2 H2) :=
  for_list Pv h0 hl (fun i x σ H hx p => hs i x σ H { D with nx := Pv (i + 1), ct := Pv (i + 1), bk := D.nx } (fun _ _ h => h) hx p) hd
theorem for_rangeN {lo : Int} {n : Nat} {g : TG} {tb : TS} {D : Ends} {σ : St} {H : Hp} (Pv : Nat → St → Hp → Prop) (h0 : Pv 0 σ H)
    (hs : ∀ i σ H (D' : Ends), (∀ σ' H', Pv (i + 1) σ' H' → D'.nx σ' H') → i < n → Pv i σ H → g (.int (lo + i)) σ H (tb D')) (hd : ∀ σ H, Pv n σ H → D.nx σ H) :
    ∃ W : Nat → Nat → St → Hp → Prop, (∃ m, W 0 m σ H) ∧ ∀ i m σ H, W i m σ H →
      ((Itr lo n).stop i H ∧ D.nx σ H) ∨ ((Itr lo n).go i H ∧ ∃ N : St → Hp → Prop, (∀ σ' H', N σ' H' → ∃ m', m' < m ∧ W (i + 1) m' σ' H') ∧ ∀ x H', (Itr lo n).yld i H x H' → g x σ H' fun σ2 H2 => tb { D with nx := N, ct := N, bk := D.nx } σ2 H2) :=
  for_range Pv h0 (fun i σ H hi p => hs i σ H { D with nx := Pv (i + 1), ct := Pv (i + 1), bk := D.nx } (fun _ _ h => h) hi p) hd
end L2

namespace TR
open PySem PySem.Spec PyProof.Rows L2 GM
/-! ### how many parts have gone into a recipe -/
def cnt (g : List (List Nat)) (q : List Nat) : Nat := (g.filter fun p => decide (p ≠ [] ∧ p.dropLast = q)).length
theorem cnt_snoc {g : List (List Nat)} {y q : List Nat} {k : Nat} : cnt (g ++ [y ++ [k]]) q = cnt g q + if q = y then 1 else 0 := by
  unfold cnt
  rw [List.filter_append, List.length_append, List.filter_cons]
  by_cases e : q = y
  · rw [if_pos e, if_pos (by simp [e])]
    rfl
  · rw [if_neg e, if_neg (by simp; exact fun z => e z.symm)]
    rfl
theorem cnt_kids {ch : List Nat → Nat} {g : List (List Nat)} {q : List Nat} (l : Lg ch g) : ch q ≤ cnt g q ↔ ∀ k, k < ch q → q ++ [k] ∈ g := by
  have sub : ∀ x ∈ (g.filter fun p => decide (p ≠ [] ∧ p.dropLast = q)), x ∈ (List.range (ch q)).map fun k => q ++ [k] := fun x hx => by
    obtain ⟨m, h⟩ := List.mem_filter.mp hx
    rw [decide_eq_true_eq] at h
    obtain ⟨y, k, rfl⟩ : ∃ y k, x = y ++ [k] := ⟨x.dropLast, x.getLast h.1, (List.dropLast_concat_getLast h.1).symm⟩
    have e : y = q := by simpa using h.2
    subst e
    exact List.mem_map.mpr ⟨k, List.mem_range.mpr (Vp.app.mp (l.mem m).1).2, rfl⟩
  have nd1 : (g.filter fun p => decide (p ≠ [] ∧ p.dropLast = q)).Nodup := l.nodup.sublist List.filter_sublist
  constructor
  · intro h k hk
    have := nd_all nd1 sub (by simpa [cnt] using h) (q ++ [k]) (List.mem_map.mpr ⟨k, List.mem_range.mpr hk, rfl⟩)
    exact (List.mem_filter.mp this).1
  · intro h
    have nd2 : ((List.range (ch q)).map fun k => q ++ [k]).Nodup := by
      rw [List.nodup_iff_pairwise_ne, List.pairwise_map]
      exact (List.nodup_iff_pairwise_ne.mp List.nodup_range).imp fun h e => h (by simpa using e)
    have := nd_len nd2 (b := g.filter fun p => decide (p ≠ [] ∧ p.dropLast = q)) fun x hx => by
      obtain ⟨k, hk, rfl⟩ := List.mem_map.mp hx
      exact List.mem_filter.mpr ⟨h k (List.mem_range.mp hk), by simp⟩
    simpa [cnt] using this
/-- what may go next -/
structure Rdy (ch : List Nat → Nat) (g : List (List Nat)) (p : List Nat) : Prop where
  ne : p ≠ []
  no : p ∉ g
  kd : ∀ k, k < ch p → p ++ [k] ∈ g
theorem pre_cons {ch : List Nat → Nat} {N : Nat} {p : List Nat} : pre ch (N + 1) p = p :: (pre ch (N + 1) p).tail := rfl
theorem pre_rest {ch : List Nat → Nat} {N : Nat} {p : List Nat} : p ∈ (pre ch (N + 1) []).tail ↔ p ≠ [] ∧ p ∈ pre ch (N + 1) [] := by
  have nd := pre_nodup (ch := ch) (n := N + 1) (p := [])
  rw [pre_cons, List.nodup_cons] at nd
  constructor
  · intro h
    exact ⟨fun e => nd.1 (e ▸ h), List.mem_of_mem_tail h⟩
  · rintro ⟨h, m⟩
    rw [pre_cons] at m
    rcases List.mem_cons.mp m with e | e
    · exact absurd e h
    · exact e
theorem TT.mem {ch : List Nat → Nat} {nd : List Nat → Int} {N : Nat} (t : TT ch nd N) {p : List Nat} (v : Vp ch p) : p ∈ pre ch N [] := by
  have := pre_has (ch := ch) (t := p) (n := N) (p := []) (by simpa using v) (t.deep p v)
  simpa using this
theorem ready_below {ch : List Nat → Nat} {nd : List Nat → Int} {N : Nat} {g : List (List Nat)} (t : TT ch nd N) : ∀ (n : Nat) (p : List Nat), N ≤ p.length + n → Vp ch p → p ≠ [] → p ∉ g → ∃ p, Vp ch p ∧ Rdy ch g p
  | 0, p, h, v, _, _ => by have := t.deep p v; omega
  | n + 1, p, h, v, ne, no => by
    by_cases c : ∀ k, k < ch p → p ++ [k] ∈ g
    · exact ⟨p, v, ne, no, c⟩
    · have : ∃ k, k < ch p ∧ p ++ [k] ∉ g := by
        apply Classical.byContradiction
        intro z
        exact c fun k hk => Classical.byContradiction fun y => z ⟨k, hk, y⟩
      obtain ⟨k, hk, hn⟩ := this
      exact ready_below t n (p ++ [k]) (by simp; omega) (Vp.app.mpr ⟨v, hk⟩) (by simp) hn
theorem goes_on {ch : List Nat → Nat} {nd : List Nat → Int} {N : Nat} {g : List (List Nat)} (t : TT ch nd (N + 1)) (h : g.length + 1 < (pre ch (N + 1) []).length) : ∃ p, Vp ch p ∧ Rdy ch g p := by
  have nd := pre_nodup (ch := ch) (n := N + 1) (p := [])
  rw [pre_cons, List.nodup_cons] at nd
  have : ∃ p, p ∈ (pre ch (N + 1) []).tail ∧ p ∉ g := by
    apply Classical.byContradiction
    intro z
    have := nd_len nd.2 (b := g) fun x hx => Classical.byContradiction fun y => z ⟨x, hx, y⟩
    rw [List.length_tail] at this
    omega
  obtain ⟨p, hp, hn⟩ := this
  have hp' := pre_rest.mp hp
  exact ready_below t (N + 1) p (by omega) (pre_valid (p := []) trivial hp'.2) hp'.1 hn
theorem all_gone {ch : List Nat → Nat} {nd : List Nat → Int} {N : Nat} {g : List (List Nat)} (t : TT ch nd (N + 1)) (l : Lg ch g) (h : (pre ch (N + 1) []).length ≤ g.length + 1) : ∀ p, Vp ch p → p ≠ [] → p ∈ g := fun p v ne => by
  refine nd_all (b := (pre ch (N + 1) []).tail) l.nodup (fun x hx => ?_) (by rw [List.length_tail]; omega) p (pre_rest.mpr ⟨ne, t.mem v⟩)
  have := l.mem hx
  exact pre_rest.mpr ⟨this.2.1, t.mem this.1⟩
theorem hv_len {ch : List Nat → Nat} {g : List (List Nat)} : (hv ch g).length ≤ g.length := by
  have : ∀ (g : List (List Nat)) (k : List (List Key × V)), (g.foldl (hvS ch) k).length ≤ k.length + g.length := fun g => by
    induction g with
    | nil => intro k; simp
    | cons p g ih =>
      intro k
      have h1 := ih (hvS ch k p)
      have h2 : (hvS ch k p).length ≤ k.length + 1 := by
        unfold hvS
        refine Nat.le_trans (length_putK ..) ?_
        split
        · omega
        · have := dropK_le k (pk p)
          omega
      show (g.foldl (hvS ch) (hvS ch k p)).length ≤ k.length + (g.length + 1)
      omega
  have := this g []
  simpa [hv] using this
/-- the law's own order of taking out and putting in, and the program's, come to the same -/
theorem put_drop {kvs : List (List Key × V)} {k j : List Key} {v : V} (ne : k ≠ j) : dropK (putK kvs k v) j = putK (dropK kvs j) k v := by
  have an : ((dropK kvs j).any fun kv => decide (kv.1 = k)) = kvs.any fun kv => decide (kv.1 = k) := by
    rw [valV_any, valV_any, valV_drop, if_neg ne]
  unfold putK
  rw [an]
  by_cases a : (kvs.any fun kv => decide (kv.1 = k)) = true
  · rw [if_pos a, if_pos a]
    unfold dropK
    clear a an
    induction kvs with
    | nil => rfl
    | cons x r ih =>
      rw [List.map_cons, List.filter_cons, List.filter_cons]
      by_cases e : x.1 = k
      · rw [if_pos e, if_pos (by simpa [e] using ne), if_pos (by simpa [e] using ne), List.map_cons, if_pos e, ih]
      · rw [if_neg e]
        by_cases f : x.1 = j
        · rw [if_neg (by simp [f]), if_neg (by simp [f]), ih]
        · rw [if_pos (by simpa using f), if_pos (by simpa using f), List.map_cons, if_neg e, ih]
  · rw [if_neg a, if_neg a]
    unfold dropK
    rw [List.filter_append, List.filter_cons, if_pos (by simpa using ne)]
    rfl
theorem hvS_prog {ch : List Nat → Nat} {kvs : List (List Key × V)} {p : List Nat} (ne : p ≠ []) : hvS ch kvs p = if ch p = 0 then putK kvs (pk p.dropLast) (.bl true) else dropK (putK kvs (pk p.dropLast) (.bl true)) (pk p) := by
  unfold hvS
  by_cases c : ch p = 0
  · rw [if_pos c, if_pos c]
  · rw [if_neg c, if_neg c, put_drop]
    intro z
    have := congrArg List.length (pk_inj z)
    rw [List.length_dropLast] at this
    have := List.length_pos_iff.mpr ne
    omega
theorem cut_last {ks : List Nat} : cutV (pth ks) none (some (-1)) = pth ks.dropLast := by
  unfold cutV
  rw [HT.sIx_none, List.drop_zero]
  have e : HT.sIx (pth ks).length (pth ks).length (some (-1)) = ks.length - 1 := by
    unfold HT.sIx
    simp
    try omega
  rw [e, Nat.sub_zero, pth, pth, ← List.map_take, List.dropLast_eq_take]
end TR

namespace K44
open PySem PySem.Spec PyProof.Rows L2 GM TM TR
theorem sqI {K : PySem.W.Frag} {H : Hp} {a : Addr} {ks : List Nat} (h : H a = some (.tup (pth ks))) : SqT K H a ((ksI ks).map V.int) := by
  rw [pth_ints] at h
  exact SqT.of h
theorem pkv {H : Hp} {a : Addr} {ks : List Nat} (h : H a = some (.tup (pth ks))) : H a = some (.tup ((pk ks).map kV)) := by rw [pk_kV]; exact h
/-- a step in the heap: its word, its path -/
def StV (H : Hp) (ch : List Nat → Nat) (s : Addr) (ks : List Nat) : Prop := ∃ (w : Str) (pa : Addr), H s = some (.tup [.str w, .ref pa]) ∧ H pa = some (.tup (pth ks)) ∧ (w = "put" ↔ ch ks = 0)
theorem StV.keep {H H' : Hp} {ch : List Nat → Nat} {s : Addr} {ks : List Nat} (h : StV H ch s ks) (t : Tk H H') : StV H' ch s ks := by
  obtain ⟨w, pa, h1, h2, h3⟩ := h
  exact ⟨w, pa, t _ _ h1, t _ _ h2, h3⟩
def spWidth : Sp := fun vs H Q _ => ∃ (v : V) (l : Addr) (ch : List Nat → Nat) (ss : List (Addr × List Nat)), vs = [v, .ref l] ∧ H l = some (.lst (ss.map fun s => .ref s.1)) ∧ (∀ s ∈ ss, StV H ch s.1 s.2) ∧ Lg ch (ss.map (·.2)) ∧ ss.length ≤ 100 ∧ ∀ H', Same H H' → Q (.int (wd ch (ss.map (·.2)))) H'
structure Sta (H : Hp) (S Gn Hv In : Addr) (kg kv kn : List (List Key × V)) : Prop where
  s : H S = some (.dK [(.inr "gone", .ref Gn), (.inr "having", .ref Hv), (.inr "inside", .ref In)])
  g : H Gn = some (.dT kg)
  v : H Hv = some (.dT kv)
  n : H In = some (.dT kn)
theorem Sta.gone {H : Hp} {S Gn Hv In : Addr} {kg kv kn : List (List Key × V)} (x : Sta H S Gn Hv In kg kv kn) : DGet H S (.str "gone") (some (.ref Gn)) := DGet.k (k := Sum.inr "gone") x.s
theorem Sta.having {H : Hp} {S Gn Hv In : Addr} {kg kv kn : List (List Key × V)} (x : Sta H S Gn Hv In kg kv kn) : DGet H S (.str "having") (some (.ref Hv)) := DGet.k (k := Sum.inr "having") x.s
theorem Sta.inside {H : Hp} {S Gn Hv In : Addr} {kg kv kn : List (List Key × V)} (x : Sta H S Gn Hv In kg kv kn) : DGet H S (.str "inside") (some (.ref In)) := DGet.k (k := Sum.inr "inside") x.s
theorem Sta.keep {H H' : Hp} {S Gn Hv In : Addr} {kg kv kn : List (List Key × V)} (x : Sta H S Gn Hv In kg kv kn) (t : Same H H') : Sta H' S Gn Hv In kg kv kn := ⟨t _ _ x.s, t _ _ x.g, t _ _ x.v, t _ _ x.n⟩
def mayV (ks : List Nat) (gone : Bool) (cn c : Nat) (ab : Bool) : V := if ks = [] ∨ gone = true then .non else if c = 0 then .str "put" else if cn < c then .non else .str (if ab = true then "join" else "keep")
def spMay : Sp := fun vs H Q _ => ∃ (v : V) (pa S Gn Hv In : Addr) (kg kv kn : List (List Key × V)) (ks : List Nat) (ch : List Nat → Nat) (nd : List Nat → Int) (n cn : Nat), vs = [v, .ref pa, .ref S] ∧ H pa = some (.tup (pth ks)) ∧ Sta H S Gn Hv In kg kv kn ∧ Hd H n v (shf ks ch) (shf ks nd) ∧ (valV kn (pk ks)).getD (.int 0) = .int (cn : Int) ∧
  ∀ H', Same H H' → Q (mayV ks (valV kg (pk ks)).isSome cn (ch ks) (valV kv (pk ks.dropLast)).isSome) H'
def spChosen : Sp := fun vs H Q _ => ∃ (l : Addr) (mo nu : Int) (ss : List Addr), vs = [.ref l, .int mo, .int nu] ∧ H l = some (.lst (ss.map V.ref)) ∧ (∀ s ∈ ss, ∃ (w : Str) (x : V), H s = some (.tup [.str w, x])) ∧ ss ≠ [] ∧ ss.length ≤ 100 ∧ ∀ s ∈ ss, ∀ H', Same H H' → Q (.ref s) H'
theorem ndSt : (["_law_step"] : List Str).Nodup := by decide +kernel
section
variable {P : Program} {w : World} {K : PySem.W.Frag} {mg : Str → Option Value} {base : Heap}
theorem scWidth : FnScope ["tree", "steps", "having", "width", "word", "path"] ["tree", "steps"] (defScope sWidth) := ⟨rfl, rfl, rfl, by decide +kernel, rfl, by decide +kernel, by decide +kernel⟩
theorem ok_width {f : Addr} {fd : FuncData} (F : Fun K "width_of" "width_of" sWidth f fd) (T : Txt mg) : FnOk P w K mg base CX0 1 f fd ["tree", "steps"] spWidth := by
  refine F.ok scWidth (fun vs H Q E h => ?_) (fun cdv A outer s H vs Q E hr h => ?_)
  · obtain ⟨_, _, _, _, rfl, _⟩ := h
    rfl
  · obtain ⟨tv, l, ch, ss, rfl, hl, hs, lg, l100, k⟩ := h
    refine ⟨_, (pss_cons (ps_set (i := 2) scWidth.nd rfl (Or.inl rfl) pe_dnewT)
      (pss_cons (ps_set (i := 3) scWidth.nd rfl (Or.inl rfl) pe_int)
      (pss_cons (ps_for PassesOwn.never rfl (pi_list (pv 1)) (pg_tup rfl (pgs_cons (pg_name (i := 4) scWidth.nd rfl (Or.inl rfl)) (pgs_cons (pg_name (i := 5) scWidth.nd rfl (Or.inl rfl)) pgs_nil)))
        (pss_cons (ps_dput (hu_of hr) (pv 2) (pe_slice sl_tupA (pv 5) po_none (po_some (pe_un un_neg pe_int))) pe_bl rfl)
        (pss_cons (ps_if (pt_cmpR op_ne (pv 4) pe_str (nomark _))
          (pss_one (ps_expr (pe_dpopT (hu_of hr) (pv 2) (pv 5) ⟨rfl, rfl, rfl, rfl⟩)))
          pss_nil)
        (pss_one (ps_set (i := 3) scWidth.nd rfl (Or.inl rfl) (pe_callB (call_max2 rfl) rfl T.max' boot_max (pa_cons (pv 3) (pa_cons (pe_callB call_lenD rfl T.len PySem.boot_len (pa_cons (pv 2) pa_nil)) pa_nil))))))))
      (pss_one (ps_ret (pv 3)))))), ?_⟩
    refine fun d nd => ?_
    have sd := Same.upd (o := .dT []) nd
    refine ⟨_, rfl, l, rfl, ⟨_, SqL.of (sd _ _ hl)⟩, ?_⟩
    refine for_listN (fun i σ H' => ∃ v4 v5 : Option V, σ = [some tv, some (.ref l), some (.ref d), some (.int (wd ch ((ss.map (·.2)).take i))), v4, v5] ∧ Same H H' ∧ H' d = some (.dT (hv ch ((ss.map (·.2)).take i)))) ⟨none, none, rfl, sd, upd_same⟩
      (fun i σ H' _ hh => by obtain ⟨_, _, _, sm, _⟩ := hh; exact SqL.of (sm _ _ hl)) ?_ ?_
    · intro i x σ H1 D hN hx hh
      obtain ⟨v4, v5, rfl, sm, hd⟩ := hh
      rw [List.getElem?_map] at hx
      obtain ⟨⟨st, ks⟩, hi, rfl⟩ := Option.map_eq_some_iff.mp hx
      obtain ⟨wo, pa, h1, h2, h3⟩ := (hs _ (List.mem_of_getElem? hi)).keep sm.tk
      have ei : (ss.map (·.2))[i]? = some ks := by rw [List.getElem?_map, hi]; rfl
      have et : (ss.map (·.2)).take (i + 1) = (ss.map (·.2)).take i ++ [ks] := by rw [List.take_add_one, ei]; rfl
      have lgi : Lg ch ((ss.map (·.2)).take i ++ [ks]) := et ▸ lg.pre (List.take_prefix ..)
      obtain ⟨vp, ne, no, kd⟩ := lgi ((ss.map (·.2)).take i) ks [] rfl
      refine ⟨st, _, rfl, SqT.of h1, rfl, _, _, rfl, _, _, rfl, rfl, ?_⟩
      refine ⟨_, rfl, _, rfl, _, rfl, _, rfl, pa, _, rfl, h2, fun pb H2 s2 hpb => ?_⟩
      rw [cut_last] at hpb
      have hd2 := s2 _ _ hd
      have hg := hv_len (ch := ch) (g := (ss.map (·.2)).take i)
      have gl : ((ss.map (·.2)).take i).length ≤ 100 := by rw [List.length_take, List.length_map]; omega
      refine ⟨d, _, rfl, DPut.t hd2 (pkv hpb) (small1000 (by omega)), ?_⟩
      generalize hk2 : putK (hv ch ((ss.map (·.2)).take i)) (pk ks.dropLast) (.bl true) = k2
      have s3 : Same H (upd H2 d (.dT k2)) := sm_own (sm.trans s2) nd
      have hd3 : upd H2 d (.dT k2) d = some (.dT k2) := upd_same
      have tk3 : Tk H1 (upd H2 d (.dT k2)) := s2.tk.trans fun b ys e => by rw [upd_ne (fun z => by rw [z, hd2] at e; cases e)]; exact e
      generalize upd H2 d (.dT k2) = H3 at s3 hd3 tk3 ⊢
      have fin : ∀ H4, Same H H4 → H4 d = some (.dT (hv ch ((ss.map (·.2)).take i ++ [ks]))) → D.nx [some tv, some (.ref l), some (.ref d), some (.int (if ((hv ch ((ss.map (·.2)).take i ++ [ks])).length : Int) > wd ch ((ss.map (·.2)).take i) then ((hv ch ((ss.map (·.2)).take i ++ [ks])).length : Int) else wd ch ((ss.map (·.2)).take i))), some (.str wo), some (.ref pa)] H4 := fun H4 s4 h4 => by
        have ew : wd ch ((ss.map (·.2)).take i ++ [ks]) = if ((hv ch ((ss.map (·.2)).take i ++ [ks])).length : Int) > wd ch ((ss.map (·.2)).take i) then ((hv ch ((ss.map (·.2)).take i ++ [ks])).length : Int) else wd ch ((ss.map (·.2)).take i) := by
          rw [wd_snoc]
          split <;> omega
        rw [← ew]
        exact hN _ _ ⟨_, _, by rw [et], s4, by rw [et]; exact h4⟩
      have eh := hv_snoc (ch := ch) (g := (ss.map (·.2)).take i) (p := ks)
      rw [hvS_prog ne, hk2] at eh
      refine ⟨_, rfl, rfl, _, rfl, ite2 (fun hp => ?_) (fun hp => ?_)⟩
      · have c0 : ch ks ≠ 0 := fun z => by
          have := h3.mpr z
          subst this
          simp at hp
        rw [if_neg c0] at eh
        have hv1 : valV k2 (pk ks) = some (.bl true) := by
          rw [← hk2, valV_put, if_neg, hv_at rfl lgi.init, if_pos ⟨⟨0, kd 0 (by omega)⟩, no⟩]
          intro z
          have := congrArg List.length (pk_inj z)
          rw [List.length_dropLast] at this
          have := List.length_pos_iff.mpr ne
          omega
        refine ⟨_, rfl, d, rfl, .inr ⟨_, .inl hd3⟩, _, rfl, k2, pk ks, pa, .bl true, hd3, rfl, pkv (tk3 _ _ h2), hv1, ?_⟩
        rw [← eh]
        refine ⟨_, rfl, _, rfl, .inl ⟨d, _, rfl, .inl upd_same, _, _, rfl, ?_⟩⟩
        exact fin _ (sm_own s3 nd) upd_same
      · have c0 : ch ks = 0 := by
          refine h3.mp ?_
          simpa using hp
        rw [if_pos c0] at eh
        rw [← eh] at hd3
        refine ⟨_, rfl, _, rfl, .inl ⟨d, _, rfl, .inl hd3, _, _, rfl, ?_⟩⟩
        exact fin _ s3 hd3
    · intro σ H1 hh
      obtain ⟨v4, v5, rfl, sm, hd⟩ := hh
      rw [List.length_map] at hd ⊢
      have e : (ss.map (·.2)).take ss.length = ss.map (·.2) := List.take_of_length_le (by simp)
      rw [e]
      exact ⟨_, rfl, k _ sm⟩
end
end K44

namespace K44
open PySem PySem.Spec PyProof.Rows L2 GM TM TR
def spWhole : Sp := fun vs H Q _ => ∃ n : Int, vs = [.int n] ∧ Q (.bl true) H
def spPb (n : Nat) : Sp := fun vs H Q _ => ∃ (v root : V) (pa : Addr) (ks : List Nat) (s : Nat) (d : Int), vs = [v, .ref pa] ∧ H pa = some (.tup (pth ks)) ∧ AtP H root ks v ∧ Tr H n v s d ∧ 1 ≤ d ∧ ks.length + n ≤ 100 ∧ ∀ w H', Same H H' → Pp H' root d.toNat w ks → Q w H'
def spPoc (n : Nat) : Sp := fun vs H Q _ => ∃ (root : V) (p m q pa : Addr) (x : Str) (ks : List Nat) (cs : List Pt) (k : Nat) (c : Pt), vs = [.ref p, .ref pa, .int (k : Int)] ∧ H p = some (.tup [.str "recipe", .str x, .ref m, .ref q]) ∧ H q = some (.tup (cs.map (·.1))) ∧ H pa = some (.tup (pth ks)) ∧ AtP H root ks (.ref p) ∧ cs[k]? = some c ∧
  Tr H n c.1 c.2.1 c.2.2 ∧ 1 ≤ c.2.2 ∧ ks.length + 1 + n ≤ 100 ∧ ∀ w H', Same H H' → Pp H' root c.2.2.toNat w (ks ++ [k]) → Q w H'
def spPaper (n : Nat) : Sp := fun vs H Q _ => ∃ (v : V) (s : Nat) (d : Int), vs = [v] ∧ Tr H n v s d ∧ 1 ≤ d ∧ n ≤ 100 ∧ ∀ w H', Same H H' → Pp H' v d.toNat w [] → Q w H'
theorem in_ints {x : Int} {ns : List Int} : inV (.int x) (ns.map V.int) = true ↔ x ∈ ns := by
  unfold inV
  rw [List.any_map, List.any_eq_true]
  constructor
  · rintro ⟨y, hy, e⟩
    have : y = x := by simpa [eqV] using e
    exact this ▸ hy
  · intro h
    exact ⟨x, h, by simp [eqV]⟩
theorem flat_ints (ns : List Int) : (ns.map V.int).all flatV = true := by
  rw [List.all_map, List.all_eq_true]
  intro x _
  rfl
theorem int_at {ns : List Int} {j : Nat} {x : Int} (h : ns[j]? = some x) : (ns.map V.int)[j]? = some (.int x) ∧ eqV (.int x) (.int x) = true := ⟨by rw [List.getElem?_map, h]; rfl, by simp [eqV]⟩
theorem int_no {ns : List Int} {m : Nat} {x : Int} {z : V} (h : ns[m]? ≠ some x) (hz : (ns.map V.int)[m]? = some z) : eqV z (.int x) = false := by
  rw [List.getElem?_map] at hz
  cases e : ns[m]? with
  | none => rw [e] at hz; cases hz
  | some y =>
    rw [e] at hz h
    cases hz
    have : y ≠ x := fun z => h (by rw [z])
    simpa [eqV] using this
section
variable {P : Program} {w : World} {K : PySem.W.Frag} {mg : Str → Option Value} {base : Heap}
theorem no_pb {k : Nat} {f : Addr} {fd : FuncData} : FnOk P w K mg base CX0 k f fd ["part", "path"] (spPb 0) := ⟨fun vs H Q E ⟨_, _, _, _, _, _, _, _, _, h, _⟩ => h.elim, fun A outer s H args us vs Q E _ _ _ _ ⟨_, _, _, _, _, _, _, _, _, h, _⟩ => h.elim⟩
theorem scWhole : FnScope ["_law_found"] ["_law_found"] (defScope sWhole) := ⟨rfl, rfl, rfl, by decide +kernel, rfl, by decide +kernel, by decide +kernel⟩
theorem ok_whole {f : Addr} {fd : FuncData} (F : Fun K "_law_whole" "_law_whole" sWhole f fd) (T : Txt mg) : FnOk P w K mg base CX0 1 f fd ["_law_found"] spWhole := by
  refine F.ok scWhole (fun vs H Q E h => ?_) (fun cdv A outer s H vs Q E hr h => ?_)
  · obtain ⟨_, rfl, _⟩ := h
    rfl
  · obtain ⟨n, rfl, q⟩ := h
    refine ⟨_, pss_one (ps_ret (pe_and (pe_callB call_isi rfl T.isi boot_isinstance (pa_cons (pv 0) (pa_cons (pe_bltn (v := .ty "int") rfl T.int' bt_int rfl) pa_nil)))
      (pe_one (pe_not (pe_callB call_isi rfl T.isi boot_isinstance (pa_cons (pv 0) (pa_cons (pe_bltn (v := .ty "bool") rfl T.bool' bt_bool rfl) pa_nil))))))), ?_⟩
    exact ⟨_, rfl, .int n, "int", true, rfl, .int_int, _, rfl, iteT ⟨_, rfl, .int n, "bool", false, rfl, .int_bool, _, rfl, q⟩⟩
theorem scPoc : FnScope ["part", "path", "place"] ["part", "path", "place"] (defScope sPoc) := ⟨rfl, rfl, rfl, by decide +kernel, rfl, by decide +kernel, by decide +kernel⟩
theorem ok_poc {k n : Nat} {f : Addr} {fd : FuncData} (F : Fun K "paper_of_child" "paper_of_child" sPoc f fd) (cB : Cal P w K mg base CX0 k "paper_beneath" ["part", "path"] (spPb n)) : FnOk P w K mg base CX0 (k + 1) f fd ["part", "path", "place"] (spPoc n) := by
  refine F.ok scPoc (fun vs H Q E h => ?_) (fun cdv A outer s H vs Q E hr h => ?_)
  · obtain ⟨_, _, _, _, _, _, _, _, _, _, rfl, _⟩ := h
    rfl
  · obtain ⟨root, p, m, q, pa, x, ks, cs, kk, c, rfl, hp, hq, hpa, ap, hc, tr, c1, l, k⟩ := h
    refine ⟨_, (pss_one (ps_ret (pe_cal cB hr rfl pass0 (pa_cons (pe_ix ix_tup (pit 0 3) (pv 2) (fun _ _ => rfl)) (pa_cons (pe_op op_catTB (pv 1) (pe_tup (pa_cons (pv 2) pa_nil))) pa_nil))))), ?_⟩
    have hc' : (cs.map (·.1))[kk]? = some c.1 := by rw [List.getElem?_map, hc]; rfl
    refine ⟨p, _, _, rfl, SqT.of hp, rfl, _, rfl, q, _, (kk : Int), c.1, rfl, rfl, SqT.of hq, atI_nat hc', _, rfl, _, rfl, (by show 1 ≤ sizeLine; decide), fun z hz => ?_⟩
    have so := Same.upd (o := .tup [.int (kk : Int)]) hz
    refine ⟨pa, z, _, _, rfl, rfl, SqT.of (so _ _ hpa), upd_same, by simp, (by rw [List.length_map]; exact sz1000 (by show ks.length + 1 ≤ 1000; omega)), fun pb H1 s1 hpb => ?_⟩
    have s01 := so.trans s1
    refine ⟨c.1, root, pb, ks ++ [kk], c.2.1, c.2.2, rfl, by rw [hpb, pth_snoc], (ap.keep s01.tk).snoc (s01 _ _ hp) (s01 _ _ hq) hc', tr.keep s01.tk, c1, by simp; omega, fun w' H2 s2 pp => k w' H2 (s01.trans s2) pp⟩
theorem scPb : FnScope ["part", "path", "need", "needs", "one", "other"] ["part", "path"] (defScope sPb) := ⟨rfl, rfl, rfl, by decide +kernel, rfl, by decide +kernel, by decide +kernel⟩
theorem ok_pb {k n : Nat} {f : Addr} {fd : FuncData} (F : Fun K "paper_beneath" "paper_beneath" sPb f fd) (cN : Cal P w K mg base CX0 k "need_of" ["tree"] (spNeedOf (n + 1))) (cS : Cal P w K mg base CX0 k "needs_of_children" ["tree"] (spNeeds n)) (cC : Cal P w K mg base CX0 k "paper_of_child" ["part", "path", "place"] (spPoc n)) : FnOk P w K mg base CX0 (k + 1) f fd ["part", "path"] (spPb (n + 1)) := by
  refine F.ok scPb (fun vs H Q E h => ?_) (fun cdv A outer s H vs Q E hr h => ?_)
  · obtain ⟨_, _, _, _, _, _, rfl, _⟩ := h
    rfl
  · obtain ⟨v, root, pa, ks, sz, d, rfl, hpa, ap, tr, d1, ln, k⟩ := h
    refine ⟨_, (pss_cons (ps_set (i := 2) scPb.nd rfl (Or.inl rfl) (pe_cal cN hr rfl pass0 (pa_cons (pv 0) pa_nil)))
      (pss_cons (ps_if (pt_cmpR op_eq (pv 2) pe_int (nomark _))
        (pss_one (ps_ret (pe_tup (pa_cons (pv 1) (pa_cons pe_non pa_nil)))))
        pss_nil)
      (pss_cons (ps_set (i := 3) scPb.nd rfl (Or.inl rfl) (pe_cal cS hr rfl pass0 (pa_cons (pv 0) pa_nil)))
      (pss_cons (ps_if (pt_cmpR op_in_seq (pv 2) (pv 3) rfl)
        (pss_one (ps_ret (pe_cal cC hr rfl pass0 (pa_cons (pv 0) (pa_cons (pv 1) (pa_cons (pe_bm PySem.F.plainAttrs_list PySem.F.slot_list_index PySem.F.type_list_index mt_index (pv 3) (pa_cons (pv 2) pa_nil)) pa_nil))))))
        pss_nil)
      (pss_cons (ps_set (i := 4) scPb.nd rfl (Or.inl rfl) (pe_bm PySem.F.plainAttrs_list PySem.F.slot_list_index PySem.F.type_list_index mt_index (pv 3) (pa_cons (pe_op op_sub (pv 2) pe_int) pa_nil)))
      (pss_cons (ps_set (i := 5) scPb.nd rfl (Or.inl rfl) (pe_bm PySem.F.plainAttrs_list PySem.F.slot_list_index PySem.F.type_list_index mt_indexF (pv 3) (pa_cons (pe_op op_sub (pv 2) pe_int) (pa_cons (pe_op op_add (pv 4) pe_int) pa_nil))))
      (pss_one (ps_ret (pe_tup (pa_cons (pv 1) (pa_cons (pe_tup (pa_cons (pe_cal cC hr rfl pass0 (pa_cons (pv 0) (pa_cons (pv 1) (pa_cons (pv 4) pa_nil)))) (pa_cons (pe_cal cC hr rfl pass0 (pa_cons (pv 0) (pa_cons (pv 1) (pa_cons (pv 5) pa_nil)))) pa_nil))) pa_nil))))))))))), ?_⟩
    have tr' := tr
    rcases tr with ⟨p, m, x, ev, hp, am, _, rfl⟩ | ⟨p, m, q, x, cs, rfl, hp, hq, l1, l2, hc, hs, hd, am⟩
    · exact absurd d1 (by decide)
    refine ⟨_, rfl, .ref p, sz, d, rfl, tr', fun H1 s1 => ?_⟩
    have hp1 := s1 _ _ hp
    have hpa1 := s1 _ _ hpa
    refine ⟨_, rfl, rfl, _, rfl, ite2 (fun h1 => ?_) (fun h1 => ?_)⟩
    · have e1 : d = 1 := by simpa [eqV] using h1
      subst e1
      refine ⟨_, rfl, (by show 2 ≤ sizeLine; decide), fun z hz => ?_⟩
      have sz' := Same.upd (o := .tup [.ref pa, .non]) hz
      have sA := s1.trans sz'
      exact k (.ref z) _ sA ⟨z, pa, p, m, q, x, ks, .non, rfl, upd_same, sA _ _ hpa, ⟨[], by simp⟩, ap.keep sA.tk, sA _ _ hp, by omega, .inl ⟨rfl, rfl⟩⟩
    · have e1 : d ≠ 1 := by simpa [eqV] using h1
      refine ⟨_, rfl, p, m, q, x, cs, rfl, hp1, s1 _ _ hq, l2, fun c hc' => (hc c hc').keep s1.tk, fun l H2 s2 nl hl => ?_⟩
      have s02 := s1.trans s2
      have hp2 := s02 _ _ hp
      have hq2 := s02 _ _ hq
      have hpa2 := s02 _ _ hpa
      have ap2 := ap.keep s02.tk
      have hc2 : ∀ c ∈ cs, Tr H2 n c.1 c.2.1 c.2.2 := fun c h => (hc c h).keep s02.tk
      have flat := flat_ints (cs.map (·.2.2))
      have get : ∀ {j : Nat} {y : Int}, (cs.map (·.2.2))[j]? = some y → ∃ c, cs[j]? = some c ∧ c.2.2 = y ∧ c ∈ cs := fun {j y} h => by
        rw [List.getElem?_map] at h
        cases e : cs[j]? with
        | none => rw [e] at h; cases h
        | some c => rw [e] at h; cases h; exact ⟨c, rfl, rfl, List.mem_of_getElem? e⟩
      refine ⟨_, rfl, _, rfl, l, _, rfl, .inl (SqL.of hl), rfl, flat, _, rfl, ite2 (fun h2 => ?_) (fun h2 => ?_)⟩
      · have hm : d ∈ cs.map (·.2.2) := in_ints.mp h2
        obtain ⟨j0, hj0, ej0⟩ := List.mem_iff_getElem.mp hm
        obtain ⟨j, _, hj, hno⟩ := first_ix (i := 0) (Nat.zero_le j0) (by rw [List.getElem?_eq_getElem hj0, ej0] : (cs.map (·.2.2))[j0]? = some d)
        obtain ⟨c, hcj, ecd, cm⟩ := get hj
        refine ⟨_, rfl, _, rfl, _, rfl, .inl ⟨rfl, _, SqL.of hl⟩, _, rfl, l, _, .int d, j, .int d, rfl, rfl, hl, rfl, flat, (int_at hj).1, (int_at hj).2, fun m' z' hm' hz' => int_no (hno m' (Nat.zero_le _) hm') hz', ?_⟩
        refine ⟨root, p, m, q, pa, x, ks, cs, j, c, rfl, hp2, hq2, hpa2, ap2, hcj, hc2 c cm, by omega, by omega, fun w' H3 s3 pp => k w' H3 (s02.trans s3) ?_⟩
        rw [ecd] at pp
        exact pp.under
      · have hm : d ∉ cs.map (·.2.2) := fun z => h2 (in_ints.mpr z)
        obtain ⟨i0, j0, ij, hi0, hj0⟩ := hd.two (by omega) hm
        obtain ⟨i, _, hi, hno⟩ := first_ix (i := 0) (Nat.zero_le i0) hi0
        have ii0 : i ≤ i0 := by
          by_cases z : i ≤ i0
          · exact z
          · exact absurd hi0 (hno i0 (Nat.zero_le _) (by omega))
        obtain ⟨j, ij', hj, hno2⟩ := first_ix (i := i + 1) (show i + 1 ≤ j0 by omega) hj0
        obtain ⟨c1', hc1, ec1, cm1⟩ := get hi
        obtain ⟨c2', hc2', ec2, cm2⟩ := get hj
        refine ⟨_, rfl, .inl ⟨rfl, _, SqL.of hl⟩, _, rfl, _, _, rfl, rfl, l, _, .int (d - 1), i, .int (d - 1), rfl, rfl, hl, rfl, flat, (int_at hi).1, (int_at hi).2, fun m' z' hm' hz' => int_no (hno m' (Nat.zero_le _) hm') hz', ?_⟩
        refine ⟨_, rfl, .inl ⟨rfl, _, SqL.of hl⟩, _, rfl, _, _, rfl, rfl, _, rfl, _, _, rfl, rfl, l, _, .int (d - 1), i + 1, j, .int (d - 1), rfl, by push_cast; rfl, hl, rfl, flat, ij', (int_at hj).1, (int_at hj).2, fun m' z' h1' hm' hz' => int_no (hno2 m' h1' hm') hz', ?_⟩
        refine ⟨_, rfl, _, rfl, _, rfl, _, rfl, root, p, m, q, pa, x, ks, cs, i, c1', rfl, hp2, hq2, hpa2, ap2, hc1, hc2 c1' cm1, by omega, by omega, fun w1 H3 s3 pp1 => ?_⟩
        have s03 := s02.trans s3
        refine ⟨_, rfl, _, rfl, _, rfl, root, p, m, q, pa, x, ks, cs, j, c2', rfl, s03 _ _ hp, s03 _ _ hq, s03 _ _ hpa, ap.keep s03.tk, hc2', (hc c2' cm2).keep s03.tk, by omega, by omega, fun w2 H4 s4 pp2 => ?_⟩
        have s04 := s03.trans s4
        refine ⟨(by show 2 ≤ sizeLine; decide), fun t ht => ⟨(by show 2 ≤ sizeLine; decide), fun z hz => ?_⟩⟩
        have st := Same.upd (o := .tup [w1, w2]) ht
        have sz' := Same.upd (o := .tup [.ref pa, .ref t]) hz
        have s46 := st.trans sz'
        have s06 := s04.trans s46
        have eh : d.toNat = (d - 1).toNat + 1 := by omega
        have htt := sz' _ _ (upd_same (H := H4) (a := t) (o := .tup [w1, w2]))
        refine k (.ref z) _ s06 ?_
        rw [eh]
        rw [ec1] at pp1
        rw [ec2] at pp2
        exact ⟨z, pa, p, m, q, x, ks, .ref t, rfl, upd_same, s06 _ _ hpa, ⟨[], by simp⟩, ap.keep s06.tk, s06 _ _ hp, by omega, .inr ⟨by omega, t, w1, w2, i, j, rfl, htt, by omega, pp1.keep (s4.trans s46).tk, pp2.keep s46.tk⟩⟩
theorem scPaper : FnScope ["tree"] ["tree"] (defScope sPaper) := ⟨rfl, rfl, rfl, by decide +kernel, rfl, by decide +kernel, by decide +kernel⟩
theorem ok_paper {k n : Nat} {f : Addr} {fd : FuncData} (F : Fun K "paper_of" "paper_of" sPaper f fd) (cB : Cal P w K mg base CX0 k "paper_beneath" ["part", "path"] (spPb n)) : FnOk P w K mg base CX0 (k + 1) f fd ["tree"] (spPaper n) := by
  refine F.ok scPaper (fun vs H Q E h => ?_) (fun cdv A outer s H vs Q E hr h => ?_)
  · obtain ⟨_, _, _, rfl, _⟩ := h
    rfl
  · obtain ⟨v, sz, d, rfl, tr, d1, n1, k⟩ := h
    refine ⟨_, (pss_one (ps_ret (pe_cal cB hr rfl pass0 (pa_cons (pv 0) (pa_cons (pe_tup pa_nil) pa_nil))))), ?_⟩
    refine ⟨_, rfl, (by show 0 ≤ sizeLine; decide), fun z hz => ?_⟩
    have so := Same.upd (o := .tup []) hz
    exact ⟨v, v, z, [], sz, d, rfl, upd_same, rfl, tr.keep so.tk, d1, by simpa using n1, fun w' H2 s2 pp => k w' H2 (so.trans s2) pp⟩
end
end K44

namespace K44
open PySem PySem.Spec PyProof.Rows L2 GM TM TR
def spHeight (n : Nat) : Sp := fun vs H Q _ => ∃ (root w : V) (us : List Nat) (h : Nat), vs = [w] ∧ h ≤ n ∧ Pp H root h w us ∧ Q (.int (h : Int)) H
section
variable {P : Program} {w : World} {K : PySem.W.Frag} {mg : Str → Option Value} {base : Heap}
theorem no_height {k : Nat} {f : Addr} {fd : FuncData} : FnOk P w K mg base CX0 k f fd ["_law_paper"] (spHeight 0) := by
  have no : ∀ vs H Q E, ¬ spHeight 0 vs H Q E := fun vs H Q E ⟨_, _, _, h, _, hn, pp, _⟩ => by
    have : h = 0 := by omega
    subst this
    exact pp
  exact ⟨fun vs H Q E h => absurd h (no _ _ _ _), fun A outer s H args us vs Q E _ _ _ _ h => absurd h (no _ _ _ _)⟩
theorem scHeight : FnScope ["_law_paper"] ["_law_paper"] (defScope sHeight) := ⟨rfl, rfl, rfl, by decide +kernel, rfl, by decide +kernel, by decide +kernel⟩
theorem ok_height {k n : Nat} {f : Addr} {fd : FuncData} (F : Fun K "_law_height" "_law_height" sHeight f fd) (cH : Cal P w K mg base CX0 k "_law_height" ["_law_paper"] (spHeight n)) : FnOk P w K mg base CX0 (k + 1) f fd ["_law_paper"] (spHeight (n + 1)) := by
  refine F.ok scHeight (fun vs H Q E h => ?_) (fun cdv A outer s H vs Q E hr h => ?_)
  · obtain ⟨_, _, _, _, rfl, _⟩ := h
    rfl
  · obtain ⟨root, w', us, h, rfl, hn, pp, k⟩ := h
    cases h with
    | zero => exact pp.elim
    | succ h =>
      refine ⟨_, (pss_cons (ps_if (pt_cmpR op_isN (pit 0 1) pe_non (nomark _))
          (pss_one (ps_ret pe_int))
          pss_nil)
        (pss_one (ps_ret (pe_op op_add pe_int (pe_cal cH hr rfl pass0 (pa_cons (pe_ix ix_tup (pit 0 1) pe_int (fun _ _ => rfl)) pa_nil)))))), ?_⟩
      obtain ⟨p, pa, q, m, r, y, ks, x, rfl, hp, hpa, _, ap, hq, l100, alt⟩ := pp
      rcases alt with ⟨rfl, rfl⟩ | ⟨h1, t, w1, w2, i, j, rfl, ht, ij, pp1, pp2⟩
      · exact ⟨p, _, _, rfl, SqT.of hp, rfl, rfl, _, rfl, iteT k⟩
      refine ⟨p, _, _, rfl, SqT.of hp, rfl, rfl, _, rfl, iteF ?_⟩
      refine ⟨p, _, _, rfl, SqT.of hp, rfl, t, _, 0, w1, rfl, rfl, SqT.of ht, atI_nat (j := 0) rfl, root, w1, ks ++ [i], h, rfl, by omega, pp1, _, _, rfl, rfl, ?_⟩
      have e : (1 : Int) + (h : Int) = ((h + 1 : Nat) : Int) := by omega
      rw [← e] at k
      exact k
theorem scMay : FnScope ["_law_part", "_law_path", "_law_state", "_law_above"] ["_law_part", "_law_path", "_law_state"] (defScope sMay) := ⟨rfl, rfl, rfl, by decide +kernel, rfl, by decide +kernel, by decide +kernel⟩
theorem ok_may {f : Addr} {fd : FuncData} (F : Fun K "_law_may" "_law_may" sMay f fd) (T : Txt mg) : FnOk P w K mg base CX0 1 f fd ["_law_part", "_law_path", "_law_state"] spMay := by
  refine F.ok scMay (fun vs H Q E h => ?_) (fun cdv A outer s H vs Q E hr h => ?_)
  · obtain ⟨_, _, _, _, _, _, _, _, _, _, _, _, _, _, rfl, _⟩ := h
    rfl
  · obtain ⟨v, pa, S, Gn, Hv, In, kg, kv, kn, ks, ch, nd, n, cn, rfl, hpa, st, hd, hcn, k⟩ := h
    refine ⟨_, (pss_cons (ps_if (PW.pt (pw_or (pt_cmpR (op_eqI hr.units) (pv 1) (pe_tup pa_nil) (nomark _)) (pw_or1 (pt_cmp (pc_din (hu_of hr) (pv 1) (pe_dget (hu_of hr) (pv 2) pe_str (fun _ _ => rfl)))))))
        (pss_one (ps_ret pe_non))
        pss_nil)
      (pss_cons (ps_set (i := 3) scMay.nd rfl (Or.inl rfl) (pe_cmp (pc_din (hu_of hr) (pe_slice sl_tupA (pv 1) po_none (po_some (pe_un un_neg pe_int))) (pe_dget (hu_of hr) (pv 2) pe_str (fun _ _ => rfl)))))
      (pss_cons (ps_if (pt_cmpR op_eq (pit 0 0) pe_str (nomark _))
        (pss_one (ps_ret pe_str))
        pss_nil)
      (pss_cons (ps_if (pt_cmpR op_lt (pe_dget2 (hu_of hr) (pe_dget (hu_of hr) (pv 2) pe_str (fun _ _ => rfl)) (pv 1) pe_int ⟨rfl, rfl, rfl, rfl⟩) (pe_callB call_len_seq rfl T.len PySem.boot_len (pa_cons (pit 0 3) pa_nil)) (nomark _))
        (pss_one (ps_ret pe_non))
        pss_nil)
      (pss_one (ps_ret (pe_ix ix_list (pe_lst (pa_cons pe_str (pa_cons pe_str pa_nil))) (pe_callTy call_int1 rfl T.int' bt_int (pa_cons (pv 3) pa_nil)) (fun _ _ => rfl)))))))), ?_⟩
    refine ⟨_, rfl, (by show 0 ≤ sizeLine; decide), fun z hz => ?_⟩
    have sz := Same.upd (o := .tup []) hz
    have hz2 : upd H z (.tup []) z = some (.tup []) := upd_same
    have hpa1 := sz _ _ hpa
    have st1 := st.keep sz
    have hd1 := hd.keep sz.tk
    generalize upd H z (.tup []) = H1 at sz hz2 hpa1 st1 hd1 ⊢
    refine ⟨pa, z, ksI ks, [], rfl, rfl, sqI hpa1, SqT.of hz2, _, rfl, ite2 (fun he => ?_) (fun he => ?_)⟩
    · have e : ks = [] := by
        have : ksI ks = [] := of_decide_eq_true he
        simpa using this
      have := k H1 sz
      unfold mayV at this
      rw [if_pos (.inl e)] at this
      exact this
    have kne : ks ≠ [] := fun e => he (by rw [e]; rfl)
    refine ⟨_, rfl, _, rfl, S, _, rfl, st1.gone, Gn, _, rfl, DGet.t st1.g (pkv hpa1), _, rfl, ite2 (fun hg => ?_) (fun hg => ?_)⟩
    · have := k H1 sz
      unfold mayV at this
      rw [if_pos (.inr hg)] at this
      exact this
    refine ⟨_, rfl, _, rfl, _, rfl, pa, _, rfl, hpa1, fun pb H2 s2 hpb => ?_⟩
    rw [cut_last] at hpb
    have st2 := st1.keep s2
    have hd2 := hd1.keep s2.tk
    have s02 := sz.trans s2
    refine ⟨_, rfl, S, _, rfl, st2.having, Hv, _, rfl, DGet.t st2.v (pkv hpb), ?_⟩
    have ech : shf ks ch [] = ch ks := by show ch (ks ++ []) = _; rw [List.append_nil]
    have kk : ¬(ks = [] ∨ (valV kg (pk ks)).isSome = true) := fun z => z.elim kne hg
    cases n with
    | zero => exact hd2.elim
    | succ n =>
      rcases hd2 with ⟨p, m, x, rfl, hp, c0, _⟩ | ⟨p, m, q, x, vs, rfl, hp, hq, l1, l2, cl, _⟩
      · rw [ech] at c0
        refine ⟨p, _, _, rfl, SqT.of hp, rfl, rfl, _, rfl, iteT ?_⟩
        have := k H2 s02
        unfold mayV at this
        rw [if_neg kk, if_pos c0] at this
        exact this
      · rw [ech] at cl
        refine ⟨p, _, _, rfl, SqT.of hp, rfl, rfl, _, rfl, iteF ?_⟩
        refine ⟨_, rfl, S, _, rfl, st2.inside, In, rfl, .inr ⟨_, .inl st2.n⟩, _, rfl, _, DGet.t st2.n (pkv (s2 _ _ hpa1)), ?_⟩
        rw [hcn]
        refine ⟨p, _, _, rfl, SqT.of hp, rfl, q, _, rfl, .inr (SqT.of hq), _, _, rfl, rfl, _, rfl, ite2 (fun hl => ?_) (fun hl => ?_)⟩
        · have hl' : (cn : Int) < (vs.length : Int) := of_decide_eq_true hl
          have := k H2 s02
          unfold mayV at this
          rw [if_neg kk, if_neg (by omega), if_pos (by omega)] at this
          exact this
        · have hl' : ¬ (cn : Int) < (vs.length : Int) := fun z => hl (decide_eq_true z)
          refine ⟨(by show 2 ≤ sizeLine; decide), fun y hy => ?_⟩
          have sy := Same.upd (o := .lst [.str "keep", .str "join"]) hy
          have fin := k _ (s02.trans sy)
          unfold mayV at fin
          rw [if_neg kk, if_neg (by omega), if_neg (by omega)] at fin
          refine ⟨_, rfl, .inr ⟨_, rfl, ?_⟩⟩
          generalize (valV kv (pk ks.dropLast)).isSome = b at fin ⊢
          cases b with
          | true => exact ⟨y, _, 1, _, rfl, rfl, SqL.of upd_same, rfl, fin⟩
          | false => exact ⟨y, _, 0, _, rfl, rfl, SqL.of upd_same, rfl, fin⟩
theorem mod_at {ss : List Addr} (h : ss ≠ []) (n : Int) : ∃ s, s ∈ ss ∧ atI (ss.map V.ref) (n % ((ss.map V.ref).length : Nat)) = some (.ref s) := by
  have l := List.length_pos_iff.mpr h
  have e := emod_in n (m := ((ss.map V.ref).length : Nat)) (by rw [List.length_map]; omega)
  rw [List.length_map] at e ⊢
  obtain ⟨j, hj⟩ := Int.eq_ofNat_of_zero_le e.1
  rw [hj]
  obtain ⟨s, hs⟩ : ∃ s, ss[j]? = some s := ⟨_, List.getElem?_eq_getElem (by omega)⟩
  exact ⟨s, List.mem_of_getElem? hs, atI_nat (by rw [List.getElem?_map, hs]; rfl)⟩
theorem scChosen : FnScope ["_law_some", "_law_mode", "_law_number", "_law_early"] ["_law_some", "_law_mode", "_law_number"] (defScope sChosen) := ⟨rfl, rfl, rfl, by decide +kernel, rfl, by decide +kernel, by decide +kernel⟩
theorem ok_chosen {f : Addr} {fd : FuncData} (F : Fun K "_law_chosen" "_law_chosen" sChosen f fd) (T : Txt mg) : FnOk P w K mg base CX0 1 f fd ["_law_some", "_law_mode", "_law_number"] spChosen := by
  refine F.ok scChosen (fun vs H Q E h => ?_) (fun cdv A outer s H vs Q E hr h => ?_)
  · obtain ⟨_, _, _, _, rfl, _⟩ := h
    rfl
  · obtain ⟨l, mo, nu, ss, rfl, hl, hs, ne, l100, k⟩ := h
    refine ⟨_, (pss_cons (ps_if (pt_cmpR op_eq (pv 1) pe_int (nomark _))
        (pss_one (ps_ret (pe_ix ix_list (pv 0) pe_int (fun _ _ => rfl))))
        pss_nil)
      (pss_cons (ps_if (pt_cmpR op_eq (pv 1) pe_int (nomark _))
        (pss_one (ps_ret (pe_ix ix_list (pv 0) (pe_un un_neg pe_int) (fun _ _ => rfl))))
        pss_nil)
      (pss_cons (ps_if (pt_cmpR op_eq (pv 1) pe_int (nomark _))
        (pss_cons (ps_comp (iy := 3) (N' := ["_law_step"]) (cl := []) (g := gName 0) (fun _ => [none]) rfl rfl (by decide +kernel) (by decide +kernel) (clOk_plain (by decide +kernel)) (fun _ _ => blkN_none)
          (pi_list (pv 0)) (fun _ _ _ _ _ => pg_name (i := 0) ndSt rfl (Or.inl rfl) (Or.inr rfl)) (fun _ _ _ _ _ => pifs_one (pt_cmpR op_ne (pe_ix (ix_tupK (K := K) rfl) (pv 0) pe_int (fun _ _ => rfl)) pe_str (nomark _))) (fun _ _ _ _ _ => pv 0) scChosen.nd rfl (Or.inl rfl) (Or.inr rfl) rfl)
        (pss_one (ps_if (pt_cmpR (op_neE hr.units) (pv 3) (pe_lst pa_nil) (nomark _))
          (pss_one (ps_ret (pe_ix ix_list (pv 3) (pe_op op_mod (pv 2) (pe_callB call_len_seq rfl T.len PySem.boot_len (pa_cons (pv 3) pa_nil))) (fun _ _ => rfl))))
          pss_nil)))
        pss_nil)
      (pss_one (ps_ret (pe_ix ix_list (pv 0) (pe_op op_mod (pv 2) (pe_callB call_len_seq rfl T.len PySem.boot_len (pa_cons (pv 0) pa_nil))) (fun _ _ => rfl))))))), ?_⟩
    have lp := List.length_pos_iff.mpr ne
    have posl : ∀ {ss : List Addr}, ss ≠ [] → (0 : Int) < (((ss.map V.ref).length : Nat) : Int) := fun {ss} h => by
      have := List.length_pos_iff.mpr h
      rw [List.length_map]
      omega
    obtain ⟨sl, ml, al⟩ := mod_at ne nu
    refine ⟨_, rfl, rfl, _, rfl, ite2 (fun _ => ?_) (fun _ => ?_)⟩
    · obtain ⟨s0, h0⟩ : ∃ s0, ss[0]? = some s0 := ⟨_, List.getElem?_eq_getElem lp⟩
      exact ⟨_, rfl, l, _, 0, .ref s0, rfl, rfl, SqL.of hl, atI_nat (j := 0) (by rw [List.getElem?_map, h0]; rfl), k s0 (List.mem_of_getElem? h0) H (Same.refl _)⟩
    refine ⟨_, rfl, rfl, _, rfl, ite2 (fun _ => ?_) (fun _ => ?_)⟩
    · obtain ⟨i, x, e⟩ : ∃ i x, ss = i ++ [x] := by
        cases er : ss.reverse with
        | nil => exact absurd (List.reverse_eq_nil_iff.mp er) ne
        | cons x i => exact ⟨i.reverse, x, by have := congrArg List.reverse er; simpa using this⟩
      refine ⟨_, rfl, _, rfl, l, _, -1, .ref x, rfl, rfl, SqL.of hl, ?_, k x (by rw [e]; simp) H (Same.refl _)⟩
      rw [e, List.map_append]
      exact atI_last _ _
    refine ⟨_, rfl, rfl, _, rfl, ite2 (fun _ => ?_) (fun _ => ?_)⟩
    rotate_left
    · exact ⟨_, rfl, _, rfl, _, rfl, l, _, rfl, .inl (SqL.of hl), _, _, rfl, rfl, posl ne, l, _, _, .ref sl, rfl, rfl, SqL.of hl, al, k sl ml H (Same.refl _)⟩
    refine ⟨_, rfl, l, rfl, ⟨_, SqL.of hl⟩, fun C nC => ?_⟩
    refine comp_filt (Ys.list (SqL.of hl)) (fun v => match v with | .ref a => (match H a with | some (.tup (.str w :: _)) => !decide (V.str w = V.str "put") | _ => false) | _ => false) (fun x y _ => y = x) (fun _ _ _ _ h _ => h) nC (by rw [List.length_map]; omega) (fun i x H' R1 R2 hx sm h1 h2 => ?_) (fun ys H' sm hC yl hy => ?_)
    · rw [List.getElem?_map] at hx
      obtain ⟨a, ha, rfl⟩ := Option.map_eq_some_iff.mp hx
      obtain ⟨wo, x, hax⟩ := hs a (List.mem_of_getElem? ha)
      dsimp only at h1 h2
      rw [hax] at h1 h2
      refine ⟨(Keep.refl _).set rfl, _, rfl, a, _, 0, .str wo, rfl, rfl, SqT.of (sm _ _ hax), atI_nat (j := 0) rfl, rfl, _, rfl, ite2 (fun hb => ?_) (fun hb => ?_)⟩
      · exact ⟨_, rfl, h1 hb _ _ (Same.refl _) rfl⟩
      · exact h2 (by simpa using hb) _ (Same.refl _)
    · have ey : ys = (ss.filter ((fun v => match v with | .ref a => (match H a with | some (.tup (.str w :: _)) => !decide (V.str w = V.str "put") | _ => false) | _ => false) ∘ V.ref)).map V.ref := by
        rw [← List.filter_map]
        apply List.ext_getElem?
        intro i
        by_cases hi : i < ys.length
        · obtain ⟨y, hyi⟩ : ∃ y, ys[i]? = some y := ⟨_, List.getElem?_eq_getElem hi⟩
          obtain ⟨x, hxi⟩ : ∃ x, ((ss.map V.ref).filter fun v => match v with | .ref a => (match H a with | some (.tup (.str w :: _)) => !decide (V.str w = V.str "put") | _ => false) | _ => false)[i]? = some x := ⟨_, List.getElem?_eq_getElem (by omega)⟩
          rw [hyi, hxi, hy i x y hxi hyi]
        · rw [List.getElem?_eq_none (by omega), List.getElem?_eq_none (by omega)]
      have sub : ∀ s ∈ (ss.filter ((fun v => match v with | .ref a => (match H a with | some (.tup (.str w :: _)) => !decide (V.str w = V.str "put") | _ => false) | _ => false) ∘ V.ref)), s ∈ ss := fun s h => (List.mem_filter.mp h).1
      generalize (ss.filter ((fun v => match v with | .ref a => (match H a with | some (.tup (.str w :: _)) => !decide (V.str w = V.str "put") | _ => false) | _ => false) ∘ V.ref)) = es at ey sub
      subst ey
      refine ⟨_, rfl, (by show 0 ≤ sizeLine; decide), fun z hz => ?_⟩
      have sz := Same.upd (o := .lst []) hz
      have s2 := sm.trans sz
      refine ⟨C, z, _, rfl, rfl, SqL.of (sz _ _ hC), SqL.of upd_same, _, rfl, ite2 (fun hb => ?_) (fun hb => ?_)⟩
      · have ne2 : es ≠ [] := fun e => by subst e; simp at hb
        obtain ⟨se, me, ae⟩ := mod_at ne2 nu
        exact ⟨_, rfl, _, rfl, _, rfl, C, _, rfl, .inl (SqL.of (sz _ _ hC)), _, _, rfl, rfl, posl ne2, C, _, _, .ref se, rfl, rfl, SqL.of (sz _ _ hC), ae, k se (sub se me) _ s2⟩
      · exact ⟨_, rfl, _, rfl, _, rfl, l, _, rfl, .inl (SqL.of (s2 _ _ hl)), _, _, rfl, rfl, posl ne, l, _, _, .ref sl, rfl, rfl, SqL.of (s2 _ _ hl), al, k sl ml _ s2⟩
end
end K44

namespace SX
open PySem PySem.Spec PyProof.Rows
/-! ### sets of texts -/
def byT (w : World) : Bool := w.params.followText "set-order"
def kv : Value → Str
  | .str x _ => x
  | _ => ⟨#[]⟩
def setO (es : Array (Int × Value)) (ep : Nat) (t : SetTable) : Obj := { cls := .type "set", dict := none, data := .set es ep t, slots := #[] }
/-- the set at a holds just the texts ks -/
structure SetS (P : Program) (w : World) (h : Heap) (a : Addr) (ks : List Str) : Prop where
  ex : ∃ es ep t, h.get? a = some (setO es ep t) ∧ ElemsOf (strKind P w) es.toList ∧ t.fits es.size = true ∧ t.led = (!byT w) ∧ (t.plain = false ∨ es.size = 0) ∧ (es.toList.map fun e => kv e.2).Perm ks
  nd : ks.Nodup
  lt : ks.length < scanBound
def dd (ks : List Str) (x : Str) : List Str := if x ∈ ks then ks else ks ++ [x]
def ddl (ss : List Str) : List Str := ss.foldl dd []
section
variable {P : Program} {w : World} {A : Around} {E : Value → Shared → Prop} {s : Shared}
end
end SX

namespace SX
open PySem PySem.Spec PyProof.Rows
section
variable {P : Program} {w : World} {A : Around} {R : Result → Shared → Prop} {I : Addr} {fp wr : List Addr} {G : Array GenState → Array GenState → Prop} {n : Nat} {Pr : Nat → Value → Prop} {St : Nat → Shared → Prop}
end
section
variable {P : Program} {w : World} {A : Around} {E : Value → Shared → Prop} {s : Shared}
abbrev nuSet (w : World) : Obj := setO #[] 0 (.fresh 0 0 (!byT w))
end
end SX

namespace SX
open PySem PySem.Spec PyProof.Rows
/-! ### a walk over a set of texts, in any order -/
def itO (f : Value) (i : Int) (n ep : Nat) (a : Addr) : Obj := { cls := .type "set_iterator", dict := none, data := .fields #[f, .int i 0, .ref a, .int n 0, .int ep 0], slots := #[] }
section
variable {P : Program} {w : World} {A : Around} {E : Value → Shared → Prop} {s : Shared}
end
end SX

namespace SX
open PySem PySem.Spec PyProof.Rows
abbrev IP (ord : List Value) (i : Nat) (v : Value) : Prop := ord[i]? = some v
section
variable {P : Program} {w : World} {A : Around} {E : Value → Shared → Prop} {s : Shared} {a I : Addr} {es : Array (Int × Value)} {ep : Nat} {t : SetTable}
end
end SX

namespace SX
open PySem PySem.Spec PyProof.Rows
section
variable {P : Program} {w : World} {A : Around} {E : Value → Shared → Prop} {s : Shared} {a I : Addr} {es : Array (Int × Value)} {ep : Nat} {t : SetTable}
end
end SX

namespace SX
open PySem PySem.Spec PyProof.Rows
section
variable {P : Program} {w : World} {A : Around} {E : Value → Shared → Prop} {s : Shared} {a : Addr} {ks : List Str}
end
end SX

namespace L2
open PySem PySem.Spec PyProof.Rows
/-! ### set(xs), sorted(set(xs)) of a list of texts -/
abbrev SetT (X : Cx) (a : Addr) (ks : List Str) : HO := .ext fun h => SX.SetS X.prog X.w h a ks
section
variable {X : Cx}
def rSetS (X : Cx) : List V → Hp → VK → Prop := fun xs H Q => ∃ a, ∃ ss : List Str, xs = [.ref a] ∧ SqL X.K H a (ss.map V.str) ∧ ss.length < 1000 ∧ ∀ p, H p = none → Q (.ref p) (upd H p (SetT X p (SX.ddl ss)))
def rSortSet (X : Cx) : List V → Hp → VK → Prop := fun xs H Q => ∃ a, ∃ ks : List Str, xs = [.ref a] ∧ H a = some (SetT X a ks) ∧ ks.length < 64 ∧ ∀ (p : Addr) (ss' : List Str), ss'.Perm ks → sortedS ss' = true → H p = none → Q (.ref p) (upd H p (.lst (ss'.map V.str)))
end
end L2

namespace L2
open PySem PySem.Spec PyProof.Rows
/-! ### statements whose reading must not be unfolded while it is found: PS and PSs under a hood -/
structure PSX (X : Cx) (st : Stmt) (t : TS) : Prop where
  h : PS X st t
structure PSB (X : Cx) (l : List Stmt) (t : TS) : Prop where
  h : PSs X l t
theorem psb_of {X : Cx} {l : List Stmt} {t : TS} (h : PSs X l t) : PSB X l t := ⟨h⟩
theorem psb_cons {X : Cx} {st : Stmt} {t u : TS} {rest : List Stmt} (h1 : PSX X st t) (h2 : PSB X rest u) : PSB X (st :: rest) (tSeq t u) := ⟨pss_cons h1.h h2.h⟩
end L2

namespace L2
open PySem PySem.Spec PyProof.Rows
/-! ### expressions under a hood: displays of constants -/
structure PEX (X : Cx) (e : Expr) (t : TE) : Prop where
  h : PE X e t
structure PAX (X : Cx) (es : List Expr) (t : TA) : Prop where
  h : PA X es t
section
variable {X : Cx}
theorem x_str {x j pos} : PEX X (.Constant (.str x) j pos) (tC (.str x)) := ⟨pe_str⟩
theorem psx_setX {i : Nat} {x : Str} {e : Expr} {te : TE} {pos pos' : Pos} (hN : X.N.Nodup) (hi : X.N[i]? = some x) (hx : Loc X.env.scope x) (he : PEX X e te) (hs : swapsWith e (some (.Name x pos')) pos.line X.env = pure false := by rfl) (hf : X.fn x = true ∨ X.env.scope.names.lookup x = some .local := by first | exact .inl rfl | exact .inr rfl | assumption) :
    PSX X (.Assign [.Name x pos'] e pos) (tAsg te (gName i)) := ⟨ps_set hN hi hx he.h hs hf⟩
end
end L2

namespace L2
open PySem PySem.Spec PyProof.Rows
section
variable {X : Cx}
theorem x_dnewT {pos : Pos} : PEX X (.Dict [] [] pos) tDNewT := ⟨pe_dnewT⟩
theorem e_disp3 {pos : Pos} {k1 k2 k3 v1 v2 v3 : Expr} {t1 t2 t3 u1 u2 u3 : TE} (h1 : PE X k1 t1) (g1 : PE X v1 u1) (h2 : PE X k2 t2) (g2 : PE X v2 u2) (h3 : PE X k3 t3) (g3 : PE X v3 u3) :
    PE X (.Dict [some k1, some k2, some k3] [v1, v2, v3] pos) (tDisp [(t1, u1), (t2, u2), (t3, u3)]) := pe_disp (pps_cons h1 g1 (pps_cons h2 g2 (pps_cons h3 g3 pps_nil))) rfl rfl (by simp) (by simp)
theorem x_disp3 {pos : Pos} {k1 k2 k3 v1 v2 v3 : Expr} {t1 t2 t3 u1 u2 u3 : TE} (h1 : PEX X k1 t1) (g1 : PEX X v1 u1) (h2 : PEX X k2 t2) (g2 : PEX X v2 u2) (h3 : PEX X k3 t3) (g3 : PEX X v3 u3) :
    PEX X (.Dict [some k1, some k2, some k3] [v1, v2, v3] pos) (tDisp [(t1, u1), (t2, u2), (t3, u3)]) := ⟨e_disp3 h1.h g1.h h2.h g2.h h3.h g3.h⟩
theorem ex_psb {l : List Stmt} {R : TS → Prop} (h : ∃ t, PSB X l t ∧ R t) : ∃ t, PSs X l t ∧ R t := by
  obtain ⟨t, a, b⟩ := h
  exact ⟨t, a.h, b⟩
end
end L2

set_option maxHeartbeats 1000000
namespace K44
open PySem PySem.Spec PyProof.Rows L2 GM TM TR
def spSteps (K : PySem.W.Frag) : Sp := fun vs H Q _ => ∃ (a : Addr) (root : V) (ns : List Int) (ch : List Nat → Nat) (nd : List Nat → Int), vs = [.ref a, root] ∧ SqL K H a (ns.map V.int) ∧ Hd H 62 root ch nd ∧ (pre ch 62 []).length ≤ 100 ∧
  ∀ (ss : List (Addr × List Nat)) l t H', Same H H' → H' t = some (.tup [.ref l, .int (wd ch (ss.map (·.2)))]) → H l = none → H' l = some (.lst (ss.map fun s => .ref s.1)) → (∀ s ∈ ss, StV H' ch s.1 s.2) → Lg ch (ss.map (·.2)) → ss.length + 1 = (pre ch 62 []).length → Q (.ref t) H'
theorem may_of {ch : List Nat → Nat} {g : List (List Nat)} {ks : List Nat} {gone b : Bool} (l : Lg ch g) (hg : gone = true ↔ ks ∈ g) : (mayV ks gone (cnt g ks) (ch ks) b = .non ∧ ¬ Rdy ch g ks) ∨ ∃ w : Str, mayV ks gone (cnt g ks) (ch ks) b = .str w ∧ Rdy ch g ks ∧ (w = "put" ↔ ch ks = 0) := by
  unfold mayV
  by_cases h1 : ks = [] ∨ gone = true
  · rw [if_pos h1]
    refine .inl ⟨rfl, fun r => ?_⟩
    rcases h1 with h | h
    · exact r.ne h
    · exact r.no (hg.mp h)
  · rw [if_neg h1]
    have n1 : ks ≠ [] := fun z => h1 (.inl z)
    have n2 : ks ∉ g := fun z => h1 (.inr (hg.mpr z))
    by_cases h2 : ch ks = 0
    · rw [if_pos h2]
      exact .inr ⟨_, rfl, ⟨n1, n2, fun k hk => by omega⟩, by simp [h2]⟩
    · rw [if_neg h2]
      by_cases h3 : cnt g ks < ch ks
      · rw [if_pos h3]
        refine .inl ⟨rfl, fun r => ?_⟩
        have := (cnt_kids l).mpr r.kd
        omega
      · rw [if_neg h3]
        refine .inr ⟨_, rfl, ⟨n1, n2, (cnt_kids l).mp (by omega)⟩, ?_⟩
        constructor
        · intro z
          cases b with
          | true => exact absurd z (by decide)
          | false => exact absurd z (by decide)
        · intro z
          exact absurd z h2
/-- all that the loop of steps holds -/
structure Wo (H : Hp) (ch : List Nat → Nat) (nd : List Nat → Int) (fs : List (Addr × List Nat)) (S Gn Hv In Pa Le Li : Addr) (kg kv kn : List (List Key × V)) (ss : List (Addr × List Nat)) : Prop where
  st : Sta H S Gn Hv In kg kv kn
  pa : H Pa = some (.lst (fs.map fun f => .ref f.1))
  en : ∀ f ∈ fs, En H ch nd 62 f.1 f.2
  le : Lf H Le
  li : H Li = some (.lst (ss.map fun s => .ref s.1))
  sv : ∀ s ∈ ss, StV H ch s.1 s.2
structure Wm (ch : List Nat → Nat) (kg kn : List (List Key × V)) (ss : List (Addr × List Nat)) : Prop where
  kgm : ∀ q, (valV kg (pk q)).isSome = true ↔ q ∈ ss.map (·.2)
  gl : kg.length ≤ ss.length
  knm : ∀ q, (valV kn (pk q)).getD (.int 0) = .int (cnt (ss.map (·.2)) q : Nat)
  nl : kn.length ≤ ss.length
  lg : Lg ch (ss.map (·.2))
section
variable {H H' : Hp} {ch : List Nat → Nat} {nd : List Nat → Int} {fs : List (Addr × List Nat)} {S Gn Hv In Pa Le Li : Addr} {kg kv kn : List (List Key × V)} {ss : List (Addr × List Nat)}
theorem lf_ne {a : Addr} {o : HO} (h : Lf H Le) (e : H a = some o) (n : ∀ xs, o ≠ .lst xs) : Le ≠ a := fun z => by
  obtain ⟨m, hm, _⟩ := h
  rw [z, e] at hm
  exact n _ (Option.some.inj hm)
theorem ne_ob {H : Hp} {a b : Addr} {o u : HO} (h1 : H a = some o) (h2 : H b = some u) (n : o ≠ u) : a ≠ b := fun z => by rw [z, h2] at h1; exact n (Option.some.inj h1).symm
theorem tk_dT {H : Hp} {a : Addr} {k : List (List Key × V)} {o : HO} (h : H a = some (.dT k)) : Tk H (upd H a o) := fun b ys e => by rw [upd_ne (ne_ob e h (by simp))]; exact e
theorem lf_upd {H : Hp} {Le a : Addr} {o : HO} (h : Lf H Le) (n : Le ≠ a) : Lf (upd H a o) Le := by
  obtain ⟨m, hm, r⟩ := h
  exact ⟨m, by rw [upd_ne n]; exact hm, r⟩
theorem Wo.keep (x : Wo H ch nd fs S Gn Hv In Pa Le Li kg kv kn ss) (t : Same H H') : Wo H' ch nd fs S Gn Hv In Pa Le Li kg kv kn ss :=
  ⟨x.st.keep t, t _ _ x.pa, fun f h => (x.en f h).keep t.tk, x.le.keep t, t _ _ x.li, fun s h => (x.sv s h).keep t.tk⟩
theorem Wo.tkl (x : Wo H ch nd fs S Gn Hv In Pa Le Li kg kv kn ss) (t : SmB Le H H') : Tk H H' := fun b ys e => t b _ (fun z => by
    obtain ⟨m, hm, _⟩ := x.le
    rw [z, hm] at e
    cases e) e
theorem Wo.left (x : Wo H ch nd fs S Gn Hv In Pa Le Li kg kv kn ss) (t : SmB Le H H') (l : Lf H' Le) (n1 : Pa ≠ Le) (n2 : Li ≠ Le) : Wo H' ch nd fs S Gn Hv In Pa Le Li kg kv kn ss :=
  ⟨⟨t _ _ (lf_ne x.le x.st.s (by simp)).symm x.st.s, t _ _ (lf_ne x.le x.st.g (by simp)).symm x.st.g, t _ _ (lf_ne x.le x.st.v (by simp)).symm x.st.v, t _ _ (lf_ne x.le x.st.n (by simp)).symm x.st.n⟩, t _ _ n1 x.pa, fun f h => (x.en f h).keep (x.tkl t), l, t _ _ n2 x.li, fun s h => (x.sv s h).keep (x.tkl t)⟩
theorem Wo.setv {k : List (List Key × V)} (x : Wo H ch nd fs S Gn Hv In Pa Le Li kg kv kn ss) (n1 : Gn ≠ Hv) (n2 : In ≠ Hv) : Wo (upd H Hv (.dT k)) ch nd fs S Gn Hv In Pa Le Li kg k kn ss :=
  ⟨⟨by rw [upd_ne (ne_ob x.st.s x.st.v (by simp))]; exact x.st.s, by rw [upd_ne n1]; exact x.st.g, upd_same, by rw [upd_ne n2]; exact x.st.n⟩, by rw [upd_ne (ne_ob x.pa x.st.v (by simp))]; exact x.pa, fun f h => (x.en f h).keep (tk_dT x.st.v), lf_upd x.le (lf_ne x.le x.st.v (by simp)), by rw [upd_ne (ne_ob x.li x.st.v (by simp))]; exact x.li, fun s h => (x.sv s h).keep (tk_dT x.st.v)⟩
theorem Wo.setn {k : List (List Key × V)} (x : Wo H ch nd fs S Gn Hv In Pa Le Li kg kv kn ss) (n1 : Gn ≠ In) (n2 : Hv ≠ In) : Wo (upd H In (.dT k)) ch nd fs S Gn Hv In Pa Le Li kg kv k ss :=
  ⟨⟨by rw [upd_ne (ne_ob x.st.s x.st.n (by simp))]; exact x.st.s, by rw [upd_ne n1]; exact x.st.g, by rw [upd_ne n2]; exact x.st.v, upd_same⟩, by rw [upd_ne (ne_ob x.pa x.st.n (by simp))]; exact x.pa, fun f h => (x.en f h).keep (tk_dT x.st.n), lf_upd x.le (lf_ne x.le x.st.n (by simp)), by rw [upd_ne (ne_ob x.li x.st.n (by simp))]; exact x.li, fun s h => (x.sv s h).keep (tk_dT x.st.n)⟩
theorem Wo.setg {k : List (List Key × V)} (x : Wo H ch nd fs S Gn Hv In Pa Le Li kg kv kn ss) (n1 : Hv ≠ Gn) (n2 : In ≠ Gn) : Wo (upd H Gn (.dT k)) ch nd fs S Gn Hv In Pa Le Li k kv kn ss :=
  ⟨⟨by rw [upd_ne (ne_ob x.st.s x.st.g (by simp))]; exact x.st.s, upd_same, by rw [upd_ne n1]; exact x.st.v, by rw [upd_ne n2]; exact x.st.n⟩, by rw [upd_ne (ne_ob x.pa x.st.g (by simp))]; exact x.pa, fun f h => (x.en f h).keep (tk_dT x.st.g), lf_upd x.le (lf_ne x.le x.st.g (by simp)), by rw [upd_ne (ne_ob x.li x.st.g (by simp))]; exact x.li, fun s h => (x.sv s h).keep (tk_dT x.st.g)⟩
theorem Wo.add {st : Addr} {ks : List Nat} (x : Wo H ch nd fs S Gn Hv In Pa Le Li kg kv kn ss) (sv : StV H ch st ks) (n1 : Pa ≠ Li) (n2 : Le ≠ Li) : Wo (upd H Li (.lst ((ss.map fun s => V.ref s.1) ++ [.ref st]))) ch nd fs S Gn Hv In Pa Le Li kg kv kn (ss ++ [(st, ks)]) := by
  have tk : Tk H (upd H Li (.lst ((ss.map fun s => V.ref s.1) ++ [.ref st]))) := Tk.lst x.li
  refine ⟨⟨by rw [upd_ne (ne_ob x.st.s x.li (by simp))]; exact x.st.s, by rw [upd_ne (ne_ob x.st.g x.li (by simp))]; exact x.st.g, by rw [upd_ne (ne_ob x.st.v x.li (by simp))]; exact x.st.v, by rw [upd_ne (ne_ob x.st.n x.li (by simp))]; exact x.st.n⟩, by rw [upd_ne n1]; exact x.pa, fun f h => (x.en f h).keep tk, lf_upd x.le n2, by rw [upd_same, List.map_append]; rfl, fun s h => ?_⟩
  rcases List.mem_append.mp h with h | h
  · exact (x.sv s h).keep tk
  · rw [List.mem_singleton.mp h]
    exact sv.keep tk
theorem Wm.add {st : Addr} {ks : List Nat} (x : Wm ch kg kn ss) (v : Vp ch ks) (r : Rdy ch (ss.map (·.2)) ks) : Wm ch (putK kg (pk ks) (.bl true)) (putK kn (pk ks.dropLast) (.int ((cnt (ss.map (·.2)) ks.dropLast : Nat) + 1))) (ss ++ [(st, ks)]) := by
  have e : (ss ++ [(st, ks)]).map (·.2) = ss.map (·.2) ++ [ks] := by simp
  refine ⟨fun q => ?_, ?_, fun q => ?_, ?_, by rw [e]; exact x.lg.snoc v r.ne r.no r.kd⟩
  · rw [e, valV_put]
    by_cases f : q = ks
    · rw [f, if_pos rfl]
      simp
    · rw [if_neg (fun z => f (pk_inj z)), x.kgm q, List.mem_append, List.mem_singleton]
      exact ⟨.inl, fun h => h.elim id fun h => absurd h f⟩
  · have := length_putK kg (pk ks) (.bl true)
    have := x.gl
    rw [List.length_append, List.length_singleton]
    omega
  · obtain ⟨y, k, rfl⟩ : ∃ y k, ks = y ++ [k] := ⟨ks.dropLast, ks.getLast r.ne, (List.dropLast_concat_getLast r.ne).symm⟩
    rw [e, cnt_snoc, valV_put, List.dropLast_concat]
    by_cases f : q = y
    · rw [f, if_pos rfl, if_pos rfl]
      rfl
    · rw [if_neg (fun z => f (pk_inj z)), if_neg f, x.knm q]
      rfl
  · have := length_putK kn (pk ks.dropLast) (.int ((cnt (ss.map (·.2)) ks.dropLast : Nat) + 1))
    have := x.nl
    rw [List.length_append, List.length_singleton]
    omega
end
section
variable {P : Program} {w : World} {K : PySem.W.Frag} {mg : Str → Option Value} {base : Heap}
theorem scSteps : FnScope ["_law_script", "_law_root_here", "_law_state", "_law_paths_here", "_law_mode", "_law_left", "_law_listed", "_law_width", "_law_turn", "_law_some", "_law_path", "_law_part", "_law_word", "_law_step", "_law_above"] ["_law_script", "_law_root_here"] (defScope sSteps) := ⟨rfl, rfl, rfl, by decide +kernel, rfl, by decide +kernel, by decide +kernel⟩
theorem ok_steps {f : Addr} {fd : FuncData} (F : Fun K "_law_steps" "_law_steps" sSteps f fd) (T : Txt mg) (cC : Cal P w K mg base CX0 2 "_law_cell_at" ["_law_script", "_law_k"] (spCell K)) (cX : Cal P w K mg base CX0 2 "_law_mixed" ["_law_cell", "_law_k"] spMixed) (cD : Cal P w K mg base CX0 2 "_law_digit" ["_law_left", "_law_many"] spDigit)
    (cP : Cal P w K mg base CX0 2 "_law_paths" ["_law_root_here"] spPaths) (cM : Cal P w K mg base CX0 2 "_law_may" ["_law_part", "_law_path", "_law_state"] spMay) (cO : Cal P w K mg base CX0 2 "_law_chosen" ["_law_some", "_law_mode", "_law_number"] spChosen) : FnOk P w K mg base CX0 3 f fd ["_law_script", "_law_root_here"] (spSteps K) := by
  refine F.ok scSteps (fun vs H Q E h => ?_) (fun cdv A outer s H vs Q E hr h => ?_)
  · obtain ⟨_, _, _, _, _, rfl, _⟩ := h
    rfl
  · obtain ⟨a, root, ns, ch, nd, rfl, ha, hd, l100, k⟩ := h
    refine ex_psb ⟨_, (psb_cons (psx_setX (i := 2) scSteps.nd rfl (Or.inl rfl) (x_disp3 x_str x_dnewT x_str x_dnewT x_str x_dnewT))
      (psb_of (pss_cons (ps_set (i := 3) scSteps.nd rfl (Or.inl rfl) (pe_cal cP hr rfl pass0 (pa_cons (pv 1) pa_nil)))
      (pss_cons (ps_set (i := 4) scSteps.nd rfl (Or.inl rfl) (pe_op op_mod (pe_cal cC hr rfl pass0 (pa_cons (pv 0) (pa_cons pe_int pa_nil))) pe_int))
      (pss_cons (ps_set (i := 5) scSteps.nd rfl (Or.inl rfl) (pe_lst (pa_cons (pe_callB call_abs rfl T.abs' bt_abs (pa_cons (pe_cal cC hr rfl pass0 (pa_cons (pv 0) (pa_cons pe_int pa_nil))) pa_nil)) pa_nil)))
      (pss_cons (ps_set (i := 6) scSteps.nd rfl (Or.inl rfl) (pe_lst pa_nil))
      (pss_cons (ps_set (i := 7) scSteps.nd rfl (Or.inl rfl) pe_int)
      (pss_cons (ps_for PassesOwn.never rfl (pi_range1 rfl T.range (pa_cons (pe_op op_sub (pe_callB call_len_seq rfl T.len PySem.boot_len (pa_cons (pv 3) pa_nil)) pe_int) pa_nil)) (pg_name (i := 8) scSteps.nd rfl (Or.inl rfl))
        (pss_cons (ps_set (i := 9) scSteps.nd rfl (Or.inl rfl) (pe_lst pa_nil))
        (pss_cons (ps_for PassesOwn.never rfl (pi_list (pv 3)) (pg_tup rfl (pgs_cons (pg_name (i := 10) scSteps.nd rfl (Or.inl rfl)) (pgs_cons (pg_name (i := 11) scSteps.nd rfl (Or.inl rfl)) pgs_nil)))
          (pss_cons (ps_set (i := 12) scSteps.nd rfl (Or.inl rfl) (pe_cal cM hr rfl pass0 (pa_cons (pv 11) (pa_cons (pv 10) (pa_cons (pv 2) pa_nil)))))
          (pss_one (ps_if (pt_cmpR op_notN (pv 12) pe_non (nomark _))
            (pss_one (ps_expr (pe_bm PySem.F.plainAttrs_list PySem.F.slot_list_append PySem.F.type_list_append mt_append (pv 9) (pa_cons (pe_tup (pa_cons (pv 12) (pa_cons (pv 10) pa_nil))) pa_nil))))
            pss_nil))))
        (pss_cons (ps_set (i := 13) scSteps.nd rfl (Or.inl rfl) (pe_cal cO hr rfl pass0 (pa_cons (pv 9) (pa_cons (pv 4) (pa_cons (pe_cal cX hr rfl pass0 (pa_cons (pe_cal cC hr rfl pass0 (pa_cons (pv 0) (pa_cons (pe_op op_add pe_int (pe_op op_mod (pv 8) pe_int)) pa_nil))) (pa_cons (pe_op op_add pe_int (pv 8)) pa_nil))) pa_nil)))))
        (pss_cons (ps_if (pt_cmpR op_eq (pe_op op_mod (pe_cal cC hr rfl pass0 (pa_cons (pv 0) (pa_cons pe_int pa_nil))) pe_int) pe_int (nomark _))
          (pss_one (ps_set (i := 13) scSteps.nd rfl (Or.inl rfl) (pe_ix ix_list (pv 9) (pe_cal cD hr rfl pass0 (pa_cons (pv 5) (pa_cons (pe_callB call_len_seq rfl T.len PySem.boot_len (pa_cons (pv 9) pa_nil)) pa_nil))) (fun _ _ => rfl))))
          pss_nil)
        (pss_cons (ps_if (pt_cmpR op_ne (pit 13 0) pe_str (nomark _))
          (pss_one (ps_expr (pe_dpopT (hu_of hr) (pe_dget (hu_of hr) (pv 2) pe_str (fun _ _ => rfl)) (pit 13 1) ⟨rfl, rfl, rfl, rfl⟩)))
          pss_nil)
        (pss_cons (ps_set (i := 14) scSteps.nd rfl (Or.inl rfl) (pe_slice sl_tupA (pit 13 1) po_none (po_some (pe_un un_neg pe_int))))
        (pss_cons (ps_dput (hu_of hr) (pe_dget (hu_of hr) (pv 2) pe_str (fun _ _ => rfl)) (pv 14) pe_bl rfl)
        (pss_cons (ps_dput (hu_of hr) (pe_dget (hu_of hr) (pv 2) pe_str (fun _ _ => rfl)) (pv 14) (pe_op op_add (pe_dget2 (hu_of hr) (pe_dget (hu_of hr) (pv 2) pe_str (fun _ _ => rfl)) (pv 14) pe_int ⟨rfl, rfl, rfl, rfl⟩) pe_int) rfl)
        (pss_cons (ps_dput (hu_of hr) (pe_dget (hu_of hr) (pv 2) pe_str (fun _ _ => rfl)) (pit 13 1) pe_bl rfl)
        (pss_cons (ps_set (i := 7) scSteps.nd rfl (Or.inl rfl) (pe_callB (call_max2 rfl) rfl T.max' boot_max (pa_cons (pv 7) (pa_cons (pe_callB call_lenD rfl T.len PySem.boot_len (pa_cons (pe_dget (hu_of hr) (pv 2) pe_str (fun _ _ => rfl)) pa_nil)) pa_nil))))
        (pss_one (ps_expr (pe_bm PySem.F.plainAttrs_list PySem.F.slot_list_append PySem.F.type_list_append mt_append (pv 6) (pa_cons (pv 13) pa_nil)))))))))))))))
      (pss_one (ps_ret (pe_tup (pa_cons (pv 6) (pa_cons (pv 7) pa_nil))))))))))))), ?_⟩
    refine fun S nS => fun Gn nG => fun Hv nH => fun In nI => ⟨?_, [(.inr "gone", .ref Gn), (.inr "having", .ref Hv), (.inr "inside", .ref In)], rfl, by show 3 ≤ 15; decide, ?_⟩
    · have e1 : Gn ≠ S := fun z => by rw [z, upd_same] at nG; cases nG
      have e2 : Hv ≠ S := fun z => by rw [z, upd_ne e1.symm, upd_same] at nH; cases nH
      have e3 : In ≠ S := fun z => by rw [z, upd_ne e2.symm, upd_ne e1.symm, upd_same] at nI; cases nI
      rw [upd_ne e3.symm, upd_ne e2.symm, upd_ne e1.symm, upd_same]
    have e1 : Gn ≠ S := fun z => by rw [z, upd_same] at nG; cases nG
    have e2 : Hv ≠ S := fun z => by rw [z, upd_ne e1.symm, upd_same] at nH; cases nH
    have e3 : In ≠ S := fun z => by rw [z, upd_ne e2.symm, upd_ne e1.symm, upd_same] at nI; cases nI
    have gh : Gn ≠ Hv := fun z => by rw [← z, upd_same] at nH; cases nH
    have gi : Gn ≠ In := fun z => by rw [← z, upd_ne gh, upd_same] at nI; cases nI
    have hi' : Hv ≠ In := fun z => by rw [← z, upd_same] at nI; cases nI
    have t1 := Same.upd (o := .dK []) nS
    have t2 := Same.upd (o := .dT []) nG
    have t3 := Same.upd (o := .dT []) nH
    have t4 := Same.upd (o := .dT []) nI
    have G0 : H Gn = none := sm_none t1 nG
    have V0 : H Hv = none := sm_none (t1.trans t2) nH
    have I0 : H In = none := sm_none ((t1.trans t2).trans t3) nI
    have sA : Same H (upd (upd (upd (upd (upd H S (.dK [])) Gn (.dT [])) Hv (.dT [])) In (.dT [])) S (.dK [(.inr "gone", .ref Gn), (.inr "having", .ref Hv), (.inr "inside", .ref In)])) := sm_own (((t1.trans t2).trans t3).trans t4) nS
    have stA : Sta (upd (upd (upd (upd (upd H S (.dK [])) Gn (.dT [])) Hv (.dT [])) In (.dT [])) S (.dK [(.inr "gone", .ref Gn), (.inr "having", .ref Hv), (.inr "inside", .ref In)])) S Gn Hv In [] [] [] :=
      ⟨upd_same, by rw [upd_ne e1, upd_ne gi, upd_ne gh, upd_same], by rw [upd_ne e2, upd_ne hi', upd_same], by rw [upd_ne e3, upd_same]⟩
    show tSeq _ _ _ _ (upd (upd (upd (upd (upd H S (.dK [])) Gn (.dT [])) Hv (.dT [])) In (.dT [])) S (.dK [(.inr "gone", .ref Gn), (.inr "having", .ref Hv), (.inr "inside", .ref In)]))
    generalize (upd (upd (upd (upd (upd H S (.dK [])) Gn (.dT [])) Hv (.dT [])) In (.dT [])) S (.dK [(.inr "gone", .ref Gn), (.inr "having", .ref Hv), (.inr "inside", .ref In)])) = H0 at sA stA ⊢
    clear nG nH nI t1 t2 t3 t4
    refine ⟨_, rfl, root, ch, nd, rfl, hd.keep sA.tk, l100, fun fs Pa H1 s1 nPa hPa efs hen => ?_⟩
    have s01 := sA.trans s1
    refine ⟨_, rfl, a, ns, 1, rfl, s01.seq ha, by decide, fun c1 => ⟨_, _, rfl, rfl, (by show (0 : Int) < 5; decide), ?_⟩⟩
    refine ⟨_, rfl, a, ns, 5, rfl, s01.seq ha, by decide, fun c5 => ⟨_, rfl, (by show 1 ≤ sizeLine; decide), fun Le nLe => ?_⟩⟩
    have tl := Same.upd (o := .lst [.int (if c5 < 0 then -c5 else c5)]) nLe
    have lf : Lf (upd H1 Le (.lst [.int (if c5 < 0 then -c5 else c5)])) Le := ⟨_, upd_same, by split <;> omega⟩
    have pL : Pa ≠ Le := fun z => by rw [← z, hPa] at nLe; cases nLe
    have L0 := sm_none s01 nLe
    generalize upd H1 Le (.lst [.int (if c5 < 0 then -c5 else c5)]) = H2 at tl lf ⊢
    refine ⟨(by show 0 ≤ sizeLine; decide), fun Li nLi => ?_⟩
    have ti := Same.upd (o := .lst []) nLi
    have s02 := s01.trans tl
    have Li0 := sm_none s02 nLi
    have pI : Pa ≠ Li := fun z => by rw [← z, tl _ _ hPa] at nLi; cases nLi
    have lI : Le ≠ Li := fun z => by
      obtain ⟨m, hm, _⟩ := lf
      rw [← z, hm] at nLi
      cases nLi
    have wo : Wo (upd H2 Li (.lst [])) ch nd fs S Gn Hv In Pa Le Li [] [] [] [] := ⟨stA.keep ((s1.trans tl).trans ti), (tl.trans ti) _ _ hPa, fun f h => (hen f h).keep (tl.trans ti).tk, lf.keep ti, upd_same, fun _ h => nomatch h⟩
    have s03 := s02.trans ti
    generalize upd H2 Li (.lst []) = H3 at ti wo s03 ⊢
    have fl : fs.length = (pre ch 62 []).length := by have := congrArg List.length efs; simpa using this
    have tt : TT ch nd (61 + 1) := hd.tt
    have p1 : 1 ≤ (pre ch 62 []).length := by show 1 ≤ (_ :: _).length; simp
    refine ⟨_, rfl, Pa, _, rfl, .inl (SqL.of wo.pa), _, _, rfl, rfl, _, rfl, by rw [List.length_map]; omega, by rw [List.length_map]; omega, ?_⟩
    have eN : ((((fs.map fun f => V.ref f.1).length : Nat) : Int) - 1).toNat = (pre ch 62 []).length - 1 := by rw [List.length_map]; omega
    rw [eN]
    refine for_rangeN (fun i σ H' => ∃ (ss : List (Addr × List Nat)) (kg kn : List (List Key × V)) (v8 v9 v10 v11 v12 v13 v14 : Option V), σ = [some (.ref a), some root, some (.ref S), some (.ref Pa), some (.int (c1 % 5)), some (.ref Le), some (.ref Li), some (.int (wd ch (ss.map (·.2)))), v8, v9, v10, v11, v12, v13, v14] ∧
      Same H H' ∧ Wo H' ch nd fs S Gn Hv In Pa Le Li kg (hv ch (ss.map (·.2))) kn ss ∧ Wm ch kg kn ss ∧ ss.length = i)
      ⟨[], [], [], none, none, none, none, none, none, none, rfl, s03, wo, ⟨fun q => by simp [valV], Nat.le_refl _, fun q => rfl, Nat.le_refl _, Lg.nil⟩, rfl⟩ ?_ ?_
    rotate_left
    · intro σ H4 hh
      obtain ⟨ss, kg, kn, v8, v9, v10, v11, v12, v13, v14, rfl, s4, wo4, wm4, sl⟩ := hh
      refine ⟨_, rfl, _, rfl, (by show 2 ≤ sizeLine; decide), fun t nt => ?_⟩
      have st := Same.upd (o := .tup [.ref Li, .int (wd ch (ss.map (·.2)))]) nt
      exact k ss Li t _ (s4.trans st) upd_same Li0 (st _ _ wo4.li) (fun s h => (wo4.sv s h).keep st.tk) wm4.lg (by omega)
    intro i σ H4 D hN hi hh
    obtain ⟨ss, kg, kn, v8, v9, v10, v11, v12, v13, v14, rfl, s4, wo4, wm4, sl⟩ := hh
    refine ⟨(by show 0 ≤ sizeLine; decide), fun So nSo => ?_⟩
    have So0 := nSo
    have tS := Same.upd (o := .lst []) nSo
    have hSo : upd H4 So (.lst []) So = some (.lst []) := upd_same
    generalize upd H4 So (.lst []) = H5 at tS hSo ⊢
    refine ⟨_, rfl, Pa, rfl, ⟨_, SqL.of (tS _ _ wo4.pa)⟩, ?_⟩
    refine for_listN (fun j σ H' => ∃ (ts : List (Addr × List Nat)) (v10 v11 v12 : Option V), σ = [some (.ref a), some root, some (.ref S), some (.ref Pa), some (.int (c1 % 5)), some (.ref Le), some (.ref Li), some (.int (wd ch (ss.map (·.2)))), some (.int (0 + (i : Int))), some (.ref So), v10, v11, v12, v13, v14] ∧
      Same H4 H' ∧ H' So = some (.lst (ts.map fun t => .ref t.1)) ∧ (∀ t ∈ ts, StV H' ch t.1 t.2 ∧ Vp ch t.2 ∧ Rdy ch (ss.map (·.2)) t.2) ∧ ts.length ≤ j ∧ ∀ f ∈ fs.take j, Rdy ch (ss.map (·.2)) f.2 → ts ≠ [])
      ⟨[], v10, v11, v12, rfl, tS, hSo, (fun _ h => nomatch h), Nat.le_refl _, fun f h => by simp at h⟩ (fun j σ H' _ hh => by obtain ⟨_, _, _, _, _, sm, _⟩ := hh; exact SqL.of (sm _ _ wo4.pa)) ?_ ?_
    · intro j x σ H6 D' hN' hx hh
      obtain ⟨ts, w10, w11, w12, rfl, s6, hSo6, hts, tl6, emp⟩ := hh
      rw [List.getElem?_map] at hx
      obtain ⟨⟨fe, ks⟩, hj, rfl⟩ := Option.map_eq_some_iff.mp hx
      have wo6 := wo4.keep s6
      have fm := List.mem_of_getElem? hj
      obtain ⟨pa, v, n, he, hpa, hdv, ln⟩ := wo6.en _ fm
      dsimp only at he hpa hdv ln
      have vp : Vp ch ks := pre_valid (p := []) (n := 62) trivial (by rw [← efs]; exact List.mem_map.mpr ⟨_, fm, rfl⟩)
      have etk : fs.take (j + 1) = fs.take j ++ [(fe, ks)] := by rw [List.take_add_one, hj]; rfl
      have jl : j < fs.length := (List.getElem?_eq_some_iff.mp hj).1
      refine ⟨fe, _, rfl, SqT.of he, rfl, _, _, rfl, _, _, rfl, rfl, ?_⟩
      refine ⟨_, rfl, _, rfl, _, rfl, v, pa, S, Gn, Hv, In, kg, _, kn, ks, ch, nd, n, _, rfl, hpa, wo6.st, hdv, wm4.knm ks, fun H7 s7 => ?_⟩
      have s47 := s6.trans s7
      have hSo7 := s7 _ _ hSo6
      have hts7 : ∀ t ∈ ts, StV H7 ch t.1 t.2 ∧ Vp ch t.2 ∧ Rdy ch (ss.map (·.2)) t.2 := fun t h => ⟨(hts t h).1.keep s7.tk, (hts t h).2⟩
      rcases may_of (ks := ks) (b := (valV (hv ch (ss.map (·.2))) (pk ks.dropLast)).isSome) wm4.lg (wm4.kgm ks) with ⟨em, nr⟩ | ⟨wo', em, rd, wp⟩
      · rw [em]
        refine ⟨_, rfl, rfl, _, rfl, iteF ?_⟩
        refine hN' _ _ ⟨ts, _, _, _, rfl, s47, hSo7, hts7, by omega, fun f hf rf => ?_⟩
        rw [etk] at hf
        rcases List.mem_append.mp hf with hf | hf
        · exact emp f hf rf
        · rw [List.mem_singleton.mp hf] at rf
          exact absurd rf nr
      · rw [em]
        refine ⟨_, rfl, rfl, _, rfl, iteT ?_⟩
        refine ⟨_, rfl, .inl ⟨rfl, _, SqL.of hSo7⟩, _, rfl, _, rfl, (by show 2 ≤ sizeLine; decide), fun z nz => ?_⟩
        have tz := Same.upd (o := .tup [.str wo', .ref pa]) nz
        refine ⟨So, _, _, rfl, rfl, tz _ _ hSo7, small1000 (by rw [List.length_map]; omega), ?_⟩
        have zS : z ≠ So := fun e => by rw [e, hSo7] at nz; cases nz
        have tkz : Tk H7 (upd (upd H7 z (.tup [.str wo', .ref pa])) So (.lst ((ts.map fun t => V.ref t.1) ++ [.ref z]))) := tz.tk.trans (Tk.lst (tz _ _ hSo7))
        refine hN' _ _ ⟨ts ++ [(z, ks)], _, _, _, rfl, sm_own (s47.trans tz) So0, by rw [upd_same, List.map_append]; rfl, fun t ht => ?_, by rw [List.length_append, List.length_singleton]; omega, fun f _ _ e => by simp at e⟩
        rcases List.mem_append.mp ht with ht | ht
        · exact ⟨(hts7 t ht).1.keep tkz, (hts7 t ht).2⟩
        · rw [List.mem_singleton.mp ht]
          exact ⟨⟨wo', pa, by rw [upd_ne zS]; exact upd_same, tkz _ _ (s7 _ _ hpa), wp⟩, vp, rd⟩
    · intro σ H6 hh
      obtain ⟨ts, w10, w11, w12, rfl, s6, hSo6, hts, tl6, emp⟩ := hh
      rw [List.length_map] at tl6 emp
      have tsn : ts ≠ [] := by
        obtain ⟨p, vp, rp⟩ := goes_on (g := ss.map (·.2)) tt (by rw [List.length_map]; show ss.length + 1 < (pre ch 62 []).length; omega)
        have pm : p ∈ fs.map (·.2) := by rw [efs]; exact tt.mem vp
        obtain ⟨f, hf, rfl⟩ := List.mem_map.mp pm
        exact emp f (by rw [List.take_of_length_le (Nat.le_refl _)]; exact hf) rp
      have wo6 := wo4.keep s6
      have s06 := s4.trans s6
      have hSo6' : H6 So = some (.lst ((ts.map (·.1)).map V.ref)) := by rw [List.map_map]; exact hSo6
      refine ⟨_, rfl, _, rfl, _, rfl, _, rfl, _, _, rfl, rfl, (by show (0 : Int) < 61; decide), _, _, rfl, rfl, a, ns, _, rfl, s06.seq ha, ?_, fun cc => ?_⟩
      · have := emod_in (0 + (i : Int)) (m := 61) (by decide)
        omega
      refine ⟨_, rfl, _, _, rfl, rfl, _, _, rfl, by omega, by omega, fun nu nu0 nul => ?_⟩
      refine ⟨So, _, nu, ts.map (·.1), rfl, hSo6', fun s hs => ?_, by simpa using tsn, by rw [List.length_map]; omega, fun st hst H7 s7 => ?_⟩
      · obtain ⟨t, ht, rfl⟩ := List.mem_map.mp hs
        obtain ⟨w', pa', h1, _⟩ := (hts t ht).1
        exact ⟨w', _, h1⟩
      obtain ⟨t0, ht0, rfl⟩ := List.mem_map.mp hst
      have s07 := s06.trans s7
      have wo7 := wo6.keep s7
      have hSo7 := s7 _ _ hSo6'
      have SL : So ≠ Le := fun z => by
        obtain ⟨m, hm, _⟩ := wo4.le
        rw [z, hm] at So0
        cases So0
      have tp := List.length_pos_iff.mpr tsn
      dsimp only [gName]
      refine seq_nx (fun σ' H' => ∃ (st : Addr) (ks : List Nat), σ' = [some (.ref a), some root, some (.ref S), some (.ref Pa), some (.int (c1 % 5)), some (.ref Le), some (.ref Li), some (.int (wd ch (ss.map (·.2)))), some (.int (0 + (i : Int))), some (.ref So), w10, w11, w12, some (.ref st), v14] ∧
        Same H H' ∧ Wo H' ch nd fs S Gn Hv In Pa Le Li kg (hv ch (ss.map (·.2))) kn ss ∧ StV H' ch st ks ∧ Vp ch ks ∧ Rdy ch (ss.map (·.2)) ks) (fun σ' H8 hh => ?_) (fun N hN2 => ?_)
      rotate_left
      · refine ⟨_, rfl, a, ns, 0, rfl, s07.seq ha, by decide, fun c0 => ⟨_, _, rfl, rfl, (by show (0 : Int) < 2; decide), rfl, _, rfl, ite2 (fun _ => ?_) (fun _ => ?_)⟩⟩
        · refine ⟨_, rfl, _, rfl, _, rfl, So, _, rfl, .inl (SqL.of hSo7), Le, _, rfl, wo7.le, by rw [List.length_map, List.length_map]; omega, ?_, fun d H8 d0 dl sB lf8 => ?_⟩
          · rw [List.length_map, List.length_map]
            exact (bt_lt 63 (c := 1000) (by omega) (by omega)).mono (by decide)
          rw [List.length_map, List.length_map] at dl
          obtain ⟨dn, rfl⟩ := Int.eq_ofNat_of_zero_le d0
          obtain ⟨t, htd⟩ : ∃ t, ts[dn]? = some t := ⟨_, List.getElem?_eq_getElem (by omega)⟩
          have tm := List.mem_of_getElem? htd
          refine ⟨So, _, _, .ref t.1, rfl, rfl, SqL.of (sB _ _ SL hSo7), atI_nat (by rw [List.getElem?_map, List.getElem?_map, htd]; rfl), ?_⟩
          exact hN2 _ _ ⟨t.1, t.2, rfl, ((SmB.of s07).trans sB).same L0, wo7.left sB lf8 pL lI.symm, ((hts t tm).1.keep s7.tk).keep (wo7.tkl sB), (hts t tm).2⟩
        · exact hN2 _ _ ⟨t0.1, t0.2, rfl, s07, wo7, (hts t0 ht0).1.keep s7.tk, (hts t0 ht0).2⟩
      obtain ⟨st, ks, rfl, s08, wo8, sv8, vp, rd⟩ := hh
      clear hSo7 wo7 s07 hSo6' wo6 s06
      have lg2 : Lg ch (ss.map (·.2) ++ [ks]) := wm4.lg.snoc vp rd.ne rd.no rd.kd
      refine seq_nx (fun σ' H' => σ' = [some (.ref a), some root, some (.ref S), some (.ref Pa), some (.int (c1 % 5)), some (.ref Le), some (.ref Li), some (.int (wd ch (ss.map (·.2)))), some (.int (0 + (i : Int))), some (.ref So), w10, w11, w12, some (.ref st), v14] ∧
        Same H H' ∧ Wo H' ch nd fs S Gn Hv In Pa Le Li kg (if ch ks = 0 then hv ch (ss.map (·.2)) else dropK (hv ch (ss.map (·.2))) (pk ks)) kn ss ∧ StV H' ch st ks) (fun σ' H9 hh => ?_) (fun N hN2 => ?_)
      rotate_left
      · obtain ⟨wo', pa, h1, h2, h3⟩ := id sv8
        refine ⟨st, _, _, rfl, SqT.of h1, rfl, rfl, _, rfl, ite2 (fun hp => ?_) (fun hp => ?_)⟩
        · have c0 : ch ks ≠ 0 := fun z => by
            have := h3.mpr z
            subst this
            simp at hp
          have hv1 : valV (hv ch (ss.map (·.2))) (pk ks) = some (.bl true) := by rw [hv_at rfl wm4.lg, if_pos ⟨⟨0, rd.kd 0 (by omega)⟩, rd.no⟩]
          refine ⟨_, rfl, S, _, rfl, wo8.st.having, Hv, rfl, .inr ⟨_, .inl wo8.st.v⟩, st, _, _, rfl, SqT.of h1, rfl, _, pk ks, pa, .bl true, wo8.st.v, rfl, pkv h2, hv1, ?_⟩
          refine hN2 _ _ ⟨rfl, sm_own s08 V0, ?_, sv8.keep (tk_dT wo8.st.v)⟩
          rw [if_neg c0]
          exact wo8.setv gh hi'.symm
        · have c0 : ch ks = 0 := h3.mp (by simpa using hp)
          refine hN2 _ _ ⟨rfl, s08, ?_, sv8⟩
          rw [if_pos c0]
          exact wo8
      obtain ⟨rfl, s09, wo9, sv9⟩ := hh
      obtain ⟨wo', pa, h1, h2, h3⟩ := id sv9
      refine ⟨st, _, _, rfl, SqT.of h1, rfl, _, rfl, _, rfl, pa, _, rfl, h2, fun pb Ha sa hpb => ?_⟩
      rw [cut_last] at hpb
      have woa := wo9.keep sa
      have sva := sv9.keep sa.tk
      have s0a := s09.trans sa
      have gl : (ss.map (·.2)).length ≤ 100 := by rw [List.length_map]; omega
      have kvl : (if ch ks = 0 then hv ch (ss.map (·.2)) else dropK (hv ch (ss.map (·.2))) (pk ks)).length ≤ 100 := by
        have h0 := hv_len (ch := ch) (g := ss.map (·.2))
        split
        · omega
        · have := dropK_le (hv ch (ss.map (·.2))) (pk ks)
          omega
      refine ⟨_, rfl, S, _, rfl, woa.st.having, _, rfl, Hv, _, rfl, DPut.t woa.st.v (pkv hpb) (small1000 (by omega)), ?_⟩
      have eh : putK (if ch ks = 0 then hv ch (ss.map (·.2)) else dropK (hv ch (ss.map (·.2))) (pk ks)) (pk ks.dropLast) (.bl true) = hv ch (ss.map (·.2) ++ [ks]) := by rw [hv_snoc]; rfl
      rw [eh]
      have wob := woa.setv (k := hv ch (ss.map (·.2) ++ [ks])) gh hi'.symm
      have svb := sva.keep (tk_dT (o := .dT (hv ch (ss.map (·.2) ++ [ks]))) woa.st.v)
      have hpbb := (tk_dT (o := .dT (hv ch (ss.map (·.2) ++ [ks]))) woa.st.v) _ _ hpb
      have s0b : Same H (upd Ha Hv (.dT (hv ch (ss.map (·.2) ++ [ks])))) := sm_own s0a V0
      generalize upd Ha Hv (.dT (hv ch (ss.map (·.2) ++ [ks]))) = Hb at wob svb hpbb s0b ⊢
      have nl := wm4.nl
      have gl' := wm4.gl
      refine ⟨_, rfl, S, _, rfl, wob.st.inside, In, rfl, .inr ⟨_, .inl wob.st.n⟩, _, rfl, _, DGet.t wob.st.n (pkv hpbb), ?_⟩
      rw [wm4.knm]
      refine ⟨_, _, rfl, rfl, _, rfl, S, _, rfl, wob.st.inside, _, rfl, In, _, rfl, DPut.t wob.st.n (pkv hpbb) (small1000 (by omega)), ?_⟩
      have woc := wob.setn (k := putK kn (pk ks.dropLast) (.int ((cnt (ss.map (·.2)) ks.dropLast : Nat) + 1))) gi hi'
      have svc := svb.keep (tk_dT (o := .dT (putK kn (pk ks.dropLast) (.int ((cnt (ss.map (·.2)) ks.dropLast : Nat) + 1)))) wob.st.n)
      have s0c : Same H (upd Hb In (.dT (putK kn (pk ks.dropLast) (.int ((cnt (ss.map (·.2)) ks.dropLast : Nat) + 1))))) := sm_own s0b I0
      show tSeq _ _ _ _ (upd Hb In (.dT (putK kn (pk ks.dropLast) (.int ((cnt (ss.map (·.2)) ks.dropLast : Nat) + 1)))))
      generalize upd Hb In (.dT (putK kn (pk ks.dropLast) (.int ((cnt (ss.map (·.2)) ks.dropLast : Nat) + 1)))) = Hc at woc svc s0c ⊢
      obtain ⟨wo2, pa2, g1, g2, g3⟩ := id svc
      refine ⟨_, rfl, S, _, rfl, woc.st.gone, st, _, _, rfl, SqT.of g1, rfl, Gn, _, rfl, DPut.t woc.st.g (pkv g2) (small1000 (by omega)), ?_⟩
      have wod := woc.setg (k := putK kg (pk ks) (.bl true)) gh.symm gi.symm
      have svd := svc.keep (tk_dT (o := .dT (putK kg (pk ks) (.bl true))) woc.st.g)
      have s0d : Same H (upd Hc Gn (.dT (putK kg (pk ks) (.bl true)))) := sm_own s0c G0
      generalize upd Hc Gn (.dT (putK kg (pk ks) (.bl true))) = Hd' at wod svd s0d ⊢
      refine ⟨_, rfl, _, rfl, S, _, rfl, wod.st.having, .inl ⟨Hv, _, rfl, .inl wod.st.v, _, _, rfl, ?_⟩⟩
      have ew : (if ((hv ch (ss.map (·.2) ++ [ks])).length : Int) > wd ch (ss.map (·.2)) then ((hv ch (ss.map (·.2) ++ [ks])).length : Int) else wd ch (ss.map (·.2))) = wd ch (ss.map (·.2) ++ [ks]) := by
        rw [wd_snoc]
        split <;> omega
      rw [ew]
      refine ⟨_, rfl, .inl ⟨rfl, _, SqL.of wod.li⟩, _, rfl, Li, _, _, rfl, rfl, wod.li, small1000 (by rw [List.length_map]; omega), ?_⟩
      have em : (ss ++ [(st, ks)]).map (·.2) = ss.map (·.2) ++ [ks] := by simp
      refine hN _ _ ⟨ss ++ [(st, ks)], _, _, _, _, _, _, _, _, _, by rw [em]; rfl, sm_own s0d Li0, by rw [em]; exact wod.add svd pI lI, wm4.add vp rd, by rw [List.length_append, sl]; rfl⟩
end
end K44

namespace K44
open PySem PySem.Spec PyProof.Rows L2 GM TM TR
def spLaw (K : PySem.W.Frag) : Sp := fun vs H Q _ => ∃ (a : Addr) (ns : List Int), vs = [.ref a] ∧ SqL K H a (ns.map V.int) ∧ ns.length ≤ 63 ∧ ∀ H', Q (.bl true) H'
section
variable {P : Program} {w : World} {K : PySem.W.Frag} {mg : Str → Option Value} {base : Heap}
theorem scLaw : FnScope ["_law_script", "_law_wares_here", "_law_root_here", "_law_listed", "_law_width", "_law_handed", "_law_found", "_law_need"] ["_law_script"] (defScope sLaw) := ⟨rfl, rfl, rfl, by decide +kernel, rfl, by decide +kernel, by decide +kernel⟩
theorem ok_law {f : Addr} {fd : FuncData} (F : Fun K "law" "law" sLaw f fd) (T : Txt mg) (cC : Cal P w K mg base CX0 200 "_law_cell_at" ["_law_script", "_law_k"] (spCell K)) (cWa : Cal P w K mg base CX0 200 "_law_wares" ["_law_cell"] spWares)
    (cCt : Cal P w K mg base CX0 200 "_law_counts" ["_law_script", "_law_start", "_law_last"] (spCounts K)) (cR : Cal P w K mg base CX0 200 "_law_root" ["_law_script", "_law_wares_here", "_law_counts_here"] (spRoot K))
    (cN : Cal P w K mg base CX0 200 "need_of" ["tree"] (spNeedOf 93)) (cP : Cal P w K mg base CX0 200 "paper_of" ["tree"] (spPaper 93)) (cH : Cal P w K mg base CX0 200 "_law_height" ["_law_paper"] (spHeight 93))
    (cS : Cal P w K mg base CX0 200 "_law_steps" ["_law_script", "_law_root_here"] (spSteps K)) (cD : Cal P w K mg base CX0 200 "width_of" ["tree", "steps"] spWidth) (cW : Cal P w K mg base CX0 200 "_law_whole" ["_law_found"] spWhole) :
    FnOk P w K mg base CX0 201 f fd ["_law_script"] (spLaw K) := by
  refine F.ok scLaw (fun vs H Q E h => ?_) (fun cdv A outer s H vs Q E hr h => ?_)
  · obtain ⟨_, _, rfl, _⟩ := h
    rfl
  · obtain ⟨a, ns, rfl, ha, l63, k⟩ := h
    refine ⟨_, (pss_cons (ps_set (i := 1) scLaw.nd rfl (Or.inl rfl) (pe_cal cWa hr rfl pass0 (pa_cons (pe_cal cC hr rfl pass0 (pa_cons (pv 0) (pa_cons pe_int pa_nil))) pa_nil)))
      (pss_cons (ps_set (i := 2) scLaw.nd rfl (Or.inl rfl) (pe_cal cR hr rfl pass0 (pa_cons (pv 0) (pa_cons (pv 1) (pa_cons (pe_cal cCt hr rfl pass0 (pa_cons (pv 0) (pa_cons pe_int (pa_cons pe_int pa_nil)))) pa_nil)))))
      (pss_cons (ps_asg (pe_cal cS hr rfl pass0 (pa_cons (pv 0) (pa_cons (pv 2) pa_nil))) (pg_tup rfl (pgs_cons (pg_name (i := 3) scLaw.nd rfl (Or.inl rfl)) (pgs_cons (pg_name (i := 4) scLaw.nd rfl (Or.inl rfl)) pgs_nil))))
      (pss_cons (ps_set (i := 5) scLaw.nd rfl (Or.inl rfl) (pe_callTy call_list_of rfl T.list' bt_list (pa_cons (pv 3) pa_nil)))
      (pss_cons (ps_set (i := 6) scLaw.nd rfl (Or.inl rfl) (pe_cal cD hr rfl pass0 (pa_cons (pv 2) (pa_cons (pv 5) pa_nil))))
      (pss_cons (ps_if (PW.pt (pw_or (pt_not (pt_val (pe_cal cW hr rfl pass0 (pa_cons (pv 6) pa_nil)))) (pw_or (pt_cmpR op_ne (pv 6) (pv 4) (nomark _)) (pw_or1 (pt_cmpR (op_neL hr.units) (pv 5) (pv 3) (nomark _))))))
        (pss_one (ps_ret pe_bl))
        pss_nil)
      (pss_cons (ps_set (i := 7) scLaw.nd rfl (Or.inl rfl) (pe_cal cN hr rfl pass0 (pa_cons (pv 2) pa_nil)))
      (pss_one (ps_ret (pe_and (pe_cal cW hr rfl pass0 (pa_cons (pv 7) pa_nil)) (pe_and (pe_cmpR op_le (pv 7) (pv 4) (nomark _)) (pe_one (pe_cmpR op_eq (pe_cal cH hr rfl pass0 (pa_cons (pe_cal cP hr rfl pass0 (pa_cons (pv 2) pa_nil)) pa_nil)) (pv 7) (nomark _)))))))))))))), ?_⟩
    refine ⟨_, rfl, a, ns, 0, rfl, ha, by decide, fun c0 => ⟨c0, rfl, fun wr ws H1 w6 _ _ s1 nw hw => ?_⟩⟩
    refine ⟨_, rfl, _, rfl, _, rfl, a, ns, rfl, s1.seq ha, fun cs c H2 ct s2 nc hc => ?_⟩
    refine ⟨a, ws, c, ns, wr, cs, rfl, (s1.trans s2).seq ha, s2 _ _ hw, w6, hc, ct, fun root n d H3 s3 tr n100 d1 => ?_⟩
    have sm3 : Same H H3 := (s1.trans s2).trans s3
    obtain ⟨ch, nd, hd, end0, epn⟩ := tr.hd
    have tt := hd.tt
    refine ⟨_, rfl, _, rfl, a, root, ns, ch, nd, rfl, sm3.seq ha, hd, by omega, fun ss l t H4 s4 ht nl hl sv lg sl => ?_⟩
    refine ⟨t, _, rfl, SqT.of ht, rfl, _, _, rfl, _, _, rfl, rfl, ?_⟩
    refine ⟨_, rfl, l, _, rfl, .inl (SqL.of hl), fun h nh => ?_⟩
    have sh := Same.upd (o := .lst (ss.map fun s => .ref s.1)) nh
    have hh : upd H4 h (.lst (ss.map fun s => .ref s.1)) h = some (.lst (ss.map fun s => .ref s.1)) := upd_same
    generalize upd H4 h (.lst (ss.map fun s => .ref s.1)) = H5 at sh hh ⊢
    refine ⟨_, rfl, _, rfl, root, h, ch, ss, rfl, hh, fun s hs => (sv s hs).keep sh.tk, lg, by omega, fun H6 s6 => ?_⟩
    have s56 := sh.trans s6
    have eq1 : (!decide (V.int (wd ch (ss.map (·.2))) = V.int (wd ch (ss.map (·.2))))) = false := by simp
    refine ⟨_, rfl, _, rfl, _, rfl, iteF ⟨_, rfl, _, rfl, rfl, _, rfl, ?_⟩⟩
    rw [eq1]
    refine iteF ⟨_, rfl, _, rfl, h, l, _, _, (fun _ => true), rfl, rfl, SqL.of (s6 _ _ hh), SqL.of (s56 _ _ hl), fun j x y hx hy => ?_, _, rfl, ?_⟩
    · rw [hx] at hy
      cases hy
      rw [List.getElem?_map] at hx
      obtain ⟨s, _, rfl⟩ := Option.map_eq_some_iff.mp hx
      exact .same
    have eq2 : (!((List.range (min (ss.map fun s => V.ref s.1).length (ss.map fun s => V.ref s.1).length)).all (fun _ => true) && (ss.map fun s => V.ref s.1).length == (ss.map fun s => V.ref s.1).length)) = false := by simp
    rw [eq2]
    refine iteF ?_
    have tr6 := tr.keep (s4.trans s56).tk
    refine ⟨_, rfl, root, n, d, rfl, tr6.up (by decide), fun H7 s7 => ?_⟩
    refine ⟨_, rfl, d, rfl, _, rfl, iteT ⟨_, rfl, _, rfl, _, _, rfl, rfl, _, rfl, ?_⟩⟩
    have c1 : 1 ≤ ch [] := by
      by_cases z : ch [] = 0
      · have := tt.zero [] trivial z
        omega
      · omega
    have nar := narrowest tt lg (all_gone (N := 61) tt lg (by rw [List.length_map]; show (pre ch 62 []).length ≤ _; omega)) c1
    rw [end0] at nar
    have eq3 : decide (d ≤ wd ch (ss.map (·.2))) = true := decide_eq_true nar
    rw [eq3]
    have fu := tr.fuel
    have ed : ((d.toNat : Nat) : Int) = d := by omega
    refine iteT ⟨_, rfl, root, n, d, rfl, (tr6.keep s7.tk).up (by decide), d1, by decide, fun pw H8 s8 pp => ?_⟩
    refine ⟨root, pw, [], d.toNat, rfl, by omega, pp, ?_⟩
    rw [ed]
    refine ⟨_, rfl, rfl, ?_⟩
    have eq4 : decide (V.int d = V.int d) = true := by simp
    rw [eq4]
    exact k _
end
end K44

namespace K44
open PySem PySem.Spec PyProof.Rows L2 GM TM TR
/-- a def of the top, by its name -/
structure Dn (K : PySem.W.Frag) (x : Str) (st : Stmt) (ps : List Str) : Prop where
  ex : ∃ (f : Addr) (fd : FuncData), PySem.W.nsIn K mainGlobals x = some (some (.ref f)) ∧ Fun K x x st f fd ∧ Binds K fd ps []
theorem Dn.mk' {K : PySem.W.Frag} {x : Str} {st : Stmt} {ps : List Str} {f : Addr} {oc : Value} {od an : Option Addr} {osl : Array (Option Value)} {kV doc pm cdv ct : Value} (a : PySem.W.nsIn K mainGlobals x = some (some (.ref f)))
    (l : K.lookup f = some ⟨oc, od, .func (PySem.W.fnOf x x (defArgs st) (defBody st) (defScope st) .none kV doc pm an cdv ct), osl⟩) (c : PySem.W.codeIn K cdv x = true) (k : PySem.W.keepIn K (.ref f) = true)
    (hb : ∀ (kV doc pm : Value) (an : Option Addr) (cdv ct : Value) (us : List Value), us.length = ps.length → bindArgs (PySem.W.fnOf x x (defArgs st) (defBody st) (defScope st) .none kV doc pm an cdv ct) ⟨us, []⟩ = pure (ps.zip us)) : Dn K x st ps :=
  ⟨f, _, a, fun_mk (st := st) l c k, (fun_mk (st := st) l c k).binds hb⟩
theorem Dn.cal {P : Program} {w : World} {K : PySem.W.Frag} {mg : Str → Option Value} {base h : Heap} {CX : CXT} {k : Nat} {x : Str} {st : Stmt} {ps : List Str} {sp : Sp} (D : Dn K x st ps) (X : K.In h) (G : h.Ns mainGlobals mg)
    (ok : ∀ {f : Addr} {fd : FuncData}, Fun K x x st f fd → FnOk P w K mg base CX k f fd ps sp) : Cal P w K mg base CX k x ps sp := by
  obtain ⟨f, fd, a, F, b⟩ := D.ex
  exact ⟨f, fd, PySem.W.mg_of X G a, F.kp, b, ok F⟩

structure AllD (K : PySem.W.Frag) : Prop where
  dNeedOf : Dn K "need_of" sNeedOf ["tree"]
  dNeeds : Dn K "needs_of_children" sNeeds ["tree"]
  dPaper : Dn K "paper_of" sPaper ["tree"]
  dPb : Dn K "paper_beneath" sPb ["part", "path"]
  dPoc : Dn K "paper_of_child" sPoc ["part", "path", "place"]
  dWidth : Dn K "width_of" sWidth ["tree", "steps"]
  dCell : Dn K "_law_cell_at" sCell ["_law_script", "_law_k"]
  dMixed : Dn K "_law_mixed" sMixed ["_law_cell", "_law_k"]
  dWhole : Dn K "_law_whole" sWhole ["_law_found"]
  dLowest : Dn K "_law_lowest" sLowest ["_law_top", "_law_bottom"]
  dAdd : Dn K "_law_add" sAdd ["_law_one", "_law_other"]
  dDigit : Dn K "_law_digit" sDigit ["_law_left", "_law_many"]
  dNames : Dn K "_law_names" sNames ["_law_left"]
  dWares : Dn K "_law_wares" sWares ["_law_cell"]
  dMuch : Dn K "_law_much" sMuch ["_law_number"]
  dFreeC : Dn K "_law_free_counts" sFreeC ["_law_left", "_law_most"]
  dCounts : Dn K "_law_counts" sCounts ["_law_script", "_law_start", "_law_last"]
  dTotal : Dn K "_law_total" sTotal ["_law_parts"]
  dFreeR : Dn K "_law_free_root" sFreeR ["_law_left", "_law_wares_here", "_law_counts_here"]
  dRoot : Dn K "_law_root" sRoot ["_law_script", "_law_wares_here", "_law_counts_here"]
  dPaths : Dn K "_law_paths" sPaths ["_law_root_here"]
  dMay : Dn K "_law_may" sMay ["_law_part", "_law_path", "_law_state"]
  dChosen : Dn K "_law_chosen" sChosen ["_law_some", "_law_mode", "_law_number"]
  dSteps : Dn K "_law_steps" sSteps ["_law_script", "_law_root_here"]
  dHeight : Dn K "_law_height" sHeight ["_law_paper"]
  z0 : PySem.W.nsIn K mainGlobals "isinstance" = some none
  z1 : PySem.W.nsIn K mainGlobals "int" = some none
  z2 : PySem.W.nsIn K mainGlobals "bool" = some none
  z3 : PySem.W.nsIn K mainGlobals "tuple" = some none
  z4 : PySem.W.nsIn K mainGlobals "len" = some none
  z5 : PySem.W.nsIn K mainGlobals "range" = some none
  z6 : PySem.W.nsIn K mainGlobals "min" = some none
  z7 : PySem.W.nsIn K mainGlobals "max" = some none
  z8 : PySem.W.nsIn K mainGlobals "abs" = some none
  z9 : PySem.W.nsIn K mainGlobals "list" = some none
  z10 : PySem.W.nsIn K mainGlobals "sorted" = some none
  z11 : PySem.W.nsIn K mainGlobals "sum" = some none
  z12 : PySem.W.nsIn K mainGlobals "reversed" = some none
theorem AllD.txt {K : PySem.W.Frag} {mg : Str → Option Value} {h : Heap} (A : AllD K) (X : K.In h) (G : h.Ns mainGlobals mg) : Txt mg := ⟨PySem.W.mg_none_of X G A.z0, PySem.W.mg_none_of X G A.z1, PySem.W.mg_none_of X G A.z2, PySem.W.mg_none_of X G A.z3, PySem.W.mg_none_of X G A.z4, PySem.W.mg_none_of X G A.z5, PySem.W.mg_none_of X G A.z6, PySem.W.mg_none_of X G A.z7, PySem.W.mg_none_of X G A.z8, PySem.W.mg_none_of X G A.z9, PySem.W.mg_none_of X G A.z10, PySem.W.mg_none_of X G A.z11, PySem.W.mg_none_of X G A.z12⟩
theorem law_ok {P : Program} {w : World} {K : PySem.W.Frag} {mg : Str → Option Value} {base h : Heap} {f : Addr} {fd : FuncData} (X : K.In h) (G : h.Ns mainGlobals mg) (A : AllD K) (F : Fun K "law" "law" sLaw f fd) : FnOk P w K mg base CX0 201 f fd ["_law_script"] (spLaw K) := by
  have T : Txt mg := A.txt X G
  have cC : Cal P w K mg base CX0 1 "_law_cell_at" ["_law_script", "_law_k"] (spCell K) := A.dCell.cal X G fun F => ok_cell F T
  have cX : Cal P w K mg base CX0 1 "_law_mixed" ["_law_cell", "_law_k"] spMixed := A.dMixed.cal X G ok_mixed
  have cLo : Cal P w K mg base CX0 1 "_law_lowest" ["_law_top", "_law_bottom"] spLowest := A.dLowest.cal X G ok_lowest
  have cAd : Cal P w K mg base CX0 2 "_law_add" ["_law_one", "_law_other"] spAdd := A.dAdd.cal X G fun F => ok_add F cLo
  have cDi : Cal P w K mg base CX0 1 "_law_digit" ["_law_left", "_law_many"] spDigit := A.dDigit.cal X G ok_digit
  have cNa : Cal P w K mg base CX0 2 "_law_names" ["_law_left"] spNames := A.dNames.cal X G fun F => ok_names F T cDi
  have cWa : Cal P w K mg base CX0 3 "_law_wares" ["_law_cell"] spWares := A.dWares.cal X G fun F => ok_wares F T cNa (cX.mono (by decide))
  have cMu : Cal P w K mg base CX0 2 "_law_much" ["_law_number"] spMuch := A.dMuch.cal X G fun F => ok_much F cLo
  have cFc : Cal P w K mg base CX0 2 "_law_free_counts" ["_law_left", "_law_most"] spFreeC := A.dFreeC.cal X G fun F => ok_freec F T cDi
  have cCt : Cal P w K mg base CX0 3 "_law_counts" ["_law_script", "_law_start", "_law_last"] (spCounts K) := A.dCounts.cal X G fun F => ok_counts F T (cC.mono (by decide)) (cX.mono (by decide)) cFc
  have cTo : Cal P w K mg base CX0 3 "_law_total" ["_law_parts"] spTotal := A.dTotal.cal X G fun F => ok_total F cAd
  have cFr : Cal P w K mg base CX0 4 "_law_free_root" ["_law_left", "_law_wares_here", "_law_counts_here"] spFreeR := A.dFreeR.cal X G fun F => ok_freer F T (cDi.mono (by decide)) (cLo.mono (by decide)) cTo
  have cRo : Cal P w K mg base CX0 5 "_law_root" ["_law_script", "_law_wares_here", "_law_counts_here"] (spRoot K) := A.dRoot.cal X G fun F => ok_root F T (cC.mono (by decide)) (cX.mono (by decide)) (cMu.mono (by decide)) cFr (cTo.mono (by decide))
  have cN : ∀ n : Nat, Cal P w K mg base CX0 (2 * n + 1) "need_of" ["tree"] (spNeedOf n) := fun n => by
    induction n with
    | zero => exact A.dNeedOf.cal X G fun _ => no_need
    | succ n ih => exact A.dNeedOf.cal X G fun F => ok_needof F T (A.dNeeds.cal X G fun F => ok_needs F ih)
  have cPb : ∀ n : Nat, Cal P w K mg base CX0 (2 * n + 2) "paper_beneath" ["part", "path"] (spPb n) := fun n => by
    induction n with
    | zero => exact A.dPb.cal X G fun _ => no_pb
    | succ n ih => exact A.dPb.cal X G fun F => ok_pb (k := 2 * n + 3) F (cN (n + 1)) ((A.dNeeds.cal X G fun F => ok_needs F (cN n)).mono (by omega)) (A.dPoc.cal X G fun F => ok_poc F ih)
  have cPp : Cal P w K mg base CX0 189 "paper_of" ["tree"] (spPaper 93) := A.dPaper.cal X G fun F => ok_paper F (cPb 93)
  have cW : Cal P w K mg base CX0 1 "_law_whole" ["_law_found"] spWhole := A.dWhole.cal X G fun F => ok_whole F T
  have cWi : Cal P w K mg base CX0 1 "width_of" ["tree", "steps"] spWidth := A.dWidth.cal X G fun F => ok_width F T
  have cPa : Cal P w K mg base CX0 1 "_law_paths" ["_law_root_here"] spPaths := A.dPaths.cal X G fun F => ok_paths F T
  have cMy : Cal P w K mg base CX0 1 "_law_may" ["_law_part", "_law_path", "_law_state"] spMay := A.dMay.cal X G fun F => ok_may F T
  have cCh : Cal P w K mg base CX0 1 "_law_chosen" ["_law_some", "_law_mode", "_law_number"] spChosen := A.dChosen.cal X G fun F => ok_chosen F T
  have cSt : Cal P w K mg base CX0 3 "_law_steps" ["_law_script", "_law_root_here"] (spSteps K) := A.dSteps.cal X G fun F => ok_steps F T (cC.mono (by decide)) (cX.mono (by decide)) (cDi.mono (by decide)) (cPa.mono (by decide)) (cMy.mono (by decide)) (cCh.mono (by decide))
  have cH : ∀ n : Nat, Cal P w K mg base CX0 (n + 2) "_law_height" ["_law_paper"] (spHeight n) := fun n => by
    induction n with
    | zero => exact A.dHeight.cal X G fun _ => no_height
    | succ n ih => exact A.dHeight.cal X G fun F => ok_height F ih
  exact ok_law F T (cC.mono (by decide)) (cWa.mono (by decide)) (cCt.mono (by decide)) (cRo.mono (by decide)) ((cN 93).mono (by decide)) (cPp.mono (by decide)) ((cH 93).mono (by decide)) (cSt.mono (by decide)) (cWi.mono (by decide)) (cW.mono (by decide))
theorem all_mk {l : PySem.W.OpenLaw} {w : World} {K : PySem.W.Frag} {h : Heap} {mg : Str → Option Value} {fa f4 : Addr} (X : K.In h) (G : h.Ns mainGlobals mg) (hfa : mg "law" = some (.ref fa)) (A : AllD K)
    {od4 an4 : Option Addr} {sl4 : Array (Option Value)} {oc4 kV4 dc4 pm4 cd4 ct4 : Value}
    (a4 : PySem.W.nsIn K mainGlobals "law" = some (some (.ref f4))) (l4 : K.lookup f4 = some ⟨oc4, od4, .func (PySem.W.fnOf "law" "law" (defArgs sLaw) (defBody sLaw) (defScope sLaw) .none kV4 dc4 pm4 an4 cd4 ct4), sl4⟩) (c4 : PySem.W.codeIn K cd4 "law" = true) (k4 : PySem.W.keepIn K (.ref f4) = true) :
    ∃ fd : FuncData, (∀ (s : Shared) (v : Value), BindsTo s fd ⟨[v], []⟩ [("_law_script", v)]) ∧ ∀ base : Heap, K.In base → base.Ns mainGlobals mg → FnOk l.prog w K mg base CX0 201 fa fd ["_law_script"] (spLaw K) := by
  have e := hfa.symm.trans (PySem.W.mg_of X G a4)
  cases e
  exact ⟨PySem.W.fnOf "law" "law" (defArgs sLaw) (defBody sLaw) (defScope sLaw) .none kV4 dc4 pm4 an4 cd4 ct4, fun s v => .of_eq rfl, fun base _ _ => law_ok X G A (fun_mk (st := sLaw) l4 c4 k4)⟩
theorem walk {l : PySem.W.OpenLaw} {q : Program} {loose : List Str} {XP : (Str → Option Value) → Heap → Prop} {YP : World → Heap → Prop} {d : DefRec} {K : Params → PySem.W.Frag} (hn : l.most = some 63) (hdf : d.params.defaults = [])
    (hY : ∀ (w : World) (h : Heap), YP w h → (K w.params).In h)
    (F : ∀ (w : World) (mg : Str → Option Value) (fa : Addr) (h : Heap), (K w.params).In h → h.Ns mainGlobals mg → mg d.name = some (.ref fa) →
      ∃ fd : FuncData, (∀ (s : Shared) (u : Value), BindsTo s fd ⟨[u], []⟩ [("_law_script", u)]) ∧ ∀ base : Heap, (K w.params).In base → base.Ns mainGlobals mg → FnOk l.prog w (K w.params) mg base CX0 201 fa fd ["_law_script"] (spLaw (K w.params))) :
    PySem.W.WalkO q loose XP YP l.row.toRowW d [] (fun f vs => PySem.call f vs) :=
  L2.walk_of (n := 63) (k := 201) (x := "_law_script") (CX := fun _ => CX0) (sp := fun w => spLaw (K w.params)) hn (by decide) hdf ⟨rfl, by decide, by decide⟩ hY F (fun _ _ a ns hl _ hS => ⟨a, ns, rfl, hS, hl, fun _ => rfl⟩) fun _ _ _ _ _ z => z
end K44
open PySem PySem.W PyProof.Rows
set_option maxRecDepth 100000 in
set_option maxHeartbeats 0 in
theorem PySem.Challenge.cw_phialhouse_k44_whole_none_narrower_holds : PySem.Challenge.rw_phialhouse_k44_whole_none_narrower.Holds := by
  w_on; o_law; k_head; (case hw => w_witness2)
  k_fill
  refine K44.walk (l := PySem.Challenge.rw_phialhouse_k44_whole_none_narrower) rfl rfl (fun w h Y => PySem.W.kIn_of Y) ?F
  case F =>
    intro w mg fa h KX G hmg
    have dNeedOf : K44.Dn (L2.KOf KX) "need_of" K44.sNeedOf ["tree"] := by
      dsimp only [L2.KOf]
      refine' K44.Dn.mk' ?a ?l ?c ?k ?b
      (case a => k_is); (case l => k_is); (case c => k_is); (case k => k_is)
      (case b => exact fun _ _ _ _ _ _ us hl => match us, hl with | [_], _ => rfl)
    have dNeeds : K44.Dn (L2.KOf KX) "needs_of_children" K44.sNeeds ["tree"] := by
      dsimp only [L2.KOf]
      refine' K44.Dn.mk' ?a ?l ?c ?k ?b
      (case a => k_is); (case l => k_is); (case c => k_is); (case k => k_is)
      (case b => exact fun _ _ _ _ _ _ us hl => match us, hl with | [_], _ => rfl)
    have dPaper : K44.Dn (L2.KOf KX) "paper_of" K44.sPaper ["tree"] := by
      dsimp only [L2.KOf]
      refine' K44.Dn.mk' ?a ?l ?c ?k ?b
      (case a => k_is); (case l => k_is); (case c => k_is); (case k => k_is)
      (case b => exact fun _ _ _ _ _ _ us hl => match us, hl with | [_], _ => rfl)
    have dPb : K44.Dn (L2.KOf KX) "paper_beneath" K44.sPb ["part", "path"] := by
      dsimp only [L2.KOf]
      refine' K44.Dn.mk' ?a ?l ?c ?k ?b
      (case a => k_is); (case l => k_is); (case c => k_is); (case k => k_is)
      (case b => exact fun _ _ _ _ _ _ us hl => match us, hl with | [_, _], _ => rfl)
    have dPoc : K44.Dn (L2.KOf KX) "paper_of_child" K44.sPoc ["part", "path", "place"] := by
      dsimp only [L2.KOf]
      refine' K44.Dn.mk' ?a ?l ?c ?k ?b
      (case a => k_is); (case l => k_is); (case c => k_is); (case k => k_is)
      (case b => exact fun _ _ _ _ _ _ us hl => match us, hl with | [_, _, _], _ => rfl)
    have dWidth : K44.Dn (L2.KOf KX) "width_of" K44.sWidth ["tree", "steps"] := by
      dsimp only [L2.KOf]
      refine' K44.Dn.mk' ?a ?l ?c ?k ?b
      (case a => k_is); (case l => k_is); (case c => k_is); (case k => k_is)
      (case b => exact fun _ _ _ _ _ _ us hl => match us, hl with | [_, _], _ => rfl)
    have dCell : K44.Dn (L2.KOf KX) "_law_cell_at" K44.sCell ["_law_script", "_law_k"] := by
      dsimp only [L2.KOf]
      refine' K44.Dn.mk' ?a ?l ?c ?k ?b
      (case a => k_is); (case l => k_is); (case c => k_is); (case k => k_is)
      (case b => exact fun _ _ _ _ _ _ us hl => match us, hl with | [_, _], _ => rfl)
    have dMixed : K44.Dn (L2.KOf KX) "_law_mixed" K44.sMixed ["_law_cell", "_law_k"] := by
      dsimp only [L2.KOf]
      refine' K44.Dn.mk' ?a ?l ?c ?k ?b
      (case a => k_is); (case l => k_is); (case c => k_is); (case k => k_is)
      (case b => exact fun _ _ _ _ _ _ us hl => match us, hl with | [_, _], _ => rfl)
    have dWhole : K44.Dn (L2.KOf KX) "_law_whole" K44.sWhole ["_law_found"] := by
      dsimp only [L2.KOf]
      refine' K44.Dn.mk' ?a ?l ?c ?k ?b
      (case a => k_is); (case l => k_is); (case c => k_is); (case k => k_is)
      (case b => exact fun _ _ _ _ _ _ us hl => match us, hl with | [_], _ => rfl)
    have dLowest : K44.Dn (L2.KOf KX) "_law_lowest" K44.sLowest ["_law_top", "_law_bottom"] := by
      dsimp only [L2.KOf]
      refine' K44.Dn.mk' ?a ?l ?c ?k ?b
      (case a => k_is); (case l => k_is); (case c => k_is); (case k => k_is)
      (case b => exact fun _ _ _ _ _ _ us hl => match us, hl with | [_, _], _ => rfl)
    have dAdd : K44.Dn (L2.KOf KX) "_law_add" K44.sAdd ["_law_one", "_law_other"] := by
      dsimp only [L2.KOf]
      refine' K44.Dn.mk' ?a ?l ?c ?k ?b
      (case a => k_is); (case l => k_is); (case c => k_is); (case k => k_is)
      (case b => exact fun _ _ _ _ _ _ us hl => match us, hl with | [_, _], _ => rfl)
    have dDigit : K44.Dn (L2.KOf KX) "_law_digit" K44.sDigit ["_law_left", "_law_many"] := by
      dsimp only [L2.KOf]
      refine' K44.Dn.mk' ?a ?l ?c ?k ?b
      (case a => k_is); (case l => k_is); (case c => k_is); (case k => k_is)
      (case b => exact fun _ _ _ _ _ _ us hl => match us, hl with | [_, _], _ => rfl)
    have dNames : K44.Dn (L2.KOf KX) "_law_names" K44.sNames ["_law_left"] := by
      dsimp only [L2.KOf]
      refine' K44.Dn.mk' ?a ?l ?c ?k ?b
      (case a => k_is); (case l => k_is); (case c => k_is); (case k => k_is)
      (case b => exact fun _ _ _ _ _ _ us hl => match us, hl with | [_], _ => rfl)
    have dWares : K44.Dn (L2.KOf KX) "_law_wares" K44.sWares ["_law_cell"] := by
      dsimp only [L2.KOf]
      refine' K44.Dn.mk' ?a ?l ?c ?k ?b
      (case a => k_is); (case l => k_is); (case c => k_is); (case k => k_is)
      (case b => exact fun _ _ _ _ _ _ us hl => match us, hl with | [_], _ => rfl)
    have dMuch : K44.Dn (L2.KOf KX) "_law_much" K44.sMuch ["_law_number"] := by
      dsimp only [L2.KOf]
      refine' K44.Dn.mk' ?a ?l ?c ?k ?b
      (case a => k_is); (case l => k_is); (case c => k_is); (case k => k_is)
      (case b => exact fun _ _ _ _ _ _ us hl => match us, hl with | [_], _ => rfl)
    have dFreeC : K44.Dn (L2.KOf KX) "_law_free_counts" K44.sFreeC ["_law_left", "_law_most"] := by
      dsimp only [L2.KOf]
      refine' K44.Dn.mk' ?a ?l ?c ?k ?b
      (case a => k_is); (case l => k_is); (case c => k_is); (case k => k_is)
      (case b => exact fun _ _ _ _ _ _ us hl => match us, hl with | [_, _], _ => rfl)
    have dCounts : K44.Dn (L2.KOf KX) "_law_counts" K44.sCounts ["_law_script", "_law_start", "_law_last"] := by
      dsimp only [L2.KOf]
      refine' K44.Dn.mk' ?a ?l ?c ?k ?b
      (case a => k_is); (case l => k_is); (case c => k_is); (case k => k_is)
      (case b => exact fun _ _ _ _ _ _ us hl => match us, hl with | [_, _, _], _ => rfl)
    have dTotal : K44.Dn (L2.KOf KX) "_law_total" K44.sTotal ["_law_parts"] := by
      dsimp only [L2.KOf]
      refine' K44.Dn.mk' ?a ?l ?c ?k ?b
      (case a => k_is); (case l => k_is); (case c => k_is); (case k => k_is)
      (case b => exact fun _ _ _ _ _ _ us hl => match us, hl with | [_], _ => rfl)
    have dFreeR : K44.Dn (L2.KOf KX) "_law_free_root" K44.sFreeR ["_law_left", "_law_wares_here", "_law_counts_here"] := by
      dsimp only [L2.KOf]
      refine' K44.Dn.mk' ?a ?l ?c ?k ?b
      (case a => k_is); (case l => k_is); (case c => k_is); (case k => k_is)
      (case b => exact fun _ _ _ _ _ _ us hl => match us, hl with | [_, _, _], _ => rfl)
    have dRoot : K44.Dn (L2.KOf KX) "_law_root" K44.sRoot ["_law_script", "_law_wares_here", "_law_counts_here"] := by
      dsimp only [L2.KOf]
      refine' K44.Dn.mk' ?a ?l ?c ?k ?b
      (case a => k_is); (case l => k_is); (case c => k_is); (case k => k_is)
      (case b => exact fun _ _ _ _ _ _ us hl => match us, hl with | [_, _, _], _ => rfl)
    have dPaths : K44.Dn (L2.KOf KX) "_law_paths" K44.sPaths ["_law_root_here"] := by
      dsimp only [L2.KOf]
      refine' K44.Dn.mk' ?a ?l ?c ?k ?b
      (case a => k_is); (case l => k_is); (case c => k_is); (case k => k_is)
      (case b => exact fun _ _ _ _ _ _ us hl => match us, hl with | [_], _ => rfl)
    have dMay : K44.Dn (L2.KOf KX) "_law_may" K44.sMay ["_law_part", "_law_path", "_law_state"] := by
      dsimp only [L2.KOf]
      refine' K44.Dn.mk' ?a ?l ?c ?k ?b
      (case a => k_is); (case l => k_is); (case c => k_is); (case k => k_is)
      (case b => exact fun _ _ _ _ _ _ us hl => match us, hl with | [_, _, _], _ => rfl)
    have dChosen : K44.Dn (L2.KOf KX) "_law_chosen" K44.sChosen ["_law_some", "_law_mode", "_law_number"] := by
      dsimp only [L2.KOf]
      refine' K44.Dn.mk' ?a ?l ?c ?k ?b
      (case a => k_is); (case l => k_is); (case c => k_is); (case k => k_is)
      (case b => exact fun _ _ _ _ _ _ us hl => match us, hl with | [_, _, _], _ => rfl)
    have dSteps : K44.Dn (L2.KOf KX) "_law_steps" K44.sSteps ["_law_script", "_law_root_here"] := by
      dsimp only [L2.KOf]
      refine' K44.Dn.mk' ?a ?l ?c ?k ?b
      (case a => k_is); (case l => k_is); (case c => k_is); (case k => k_is)
      (case b => exact fun _ _ _ _ _ _ us hl => match us, hl with | [_, _], _ => rfl)
    have dHeight : K44.Dn (L2.KOf KX) "_law_height" K44.sHeight ["_law_paper"] := by
      dsimp only [L2.KOf]
      refine' K44.Dn.mk' ?a ?l ?c ?k ?b
      (case a => k_is); (case l => k_is); (case c => k_is); (case k => k_is)
      (case b => exact fun _ _ _ _ _ _ us hl => match us, hl with | [_], _ => rfl)
    have z0 : PySem.W.nsIn (L2.KOf KX) mainGlobals "isinstance" = some none := by
      dsimp only [L2.KOf]
      k_is
    have z1 : PySem.W.nsIn (L2.KOf KX) mainGlobals "int" = some none := by
      dsimp only [L2.KOf]
      k_is
    have z2 : PySem.W.nsIn (L2.KOf KX) mainGlobals "bool" = some none := by
      dsimp only [L2.KOf]
      k_is
    have z3 : PySem.W.nsIn (L2.KOf KX) mainGlobals "tuple" = some none := by
      dsimp only [L2.KOf]
      k_is
    have z4 : PySem.W.nsIn (L2.KOf KX) mainGlobals "len" = some none := by
      dsimp only [L2.KOf]
      k_is
    have z5 : PySem.W.nsIn (L2.KOf KX) mainGlobals "range" = some none := by
      dsimp only [L2.KOf]
      k_is
    have z6 : PySem.W.nsIn (L2.KOf KX) mainGlobals "min" = some none := by
      dsimp only [L2.KOf]
      k_is
    have z7 : PySem.W.nsIn (L2.KOf KX) mainGlobals "max" = some none := by
      dsimp only [L2.KOf]
      k_is
    have z8 : PySem.W.nsIn (L2.KOf KX) mainGlobals "abs" = some none := by
      dsimp only [L2.KOf]
      k_is
    have z9 : PySem.W.nsIn (L2.KOf KX) mainGlobals "list" = some none := by
      dsimp only [L2.KOf]
      k_is
    have z10 : PySem.W.nsIn (L2.KOf KX) mainGlobals "sorted" = some none := by
      dsimp only [L2.KOf]
      k_is
    have z11 : PySem.W.nsIn (L2.KOf KX) mainGlobals "sum" = some none := by
      dsimp only [L2.KOf]
      k_is
    have z12 : PySem.W.nsIn (L2.KOf KX) mainGlobals "reversed" = some none := by
      dsimp only [L2.KOf]
      k_is
    refine' K44.all_mk KX G hmg ⟨dNeedOf, dNeeds, dPaper, dPb, dPoc, dWidth, dCell, dMixed, dWhole, dLowest, dAdd, dDigit, dNames, dWares, dMuch, dFreeC, dCounts, dTotal, dFreeR, dRoot, dPaths, dMay, dChosen, dSteps, dHeight, z0, z1, z2, z3, z4, z5, z6, z7, z8, z9, z10, z11, z12⟩ ?a4 ?l4 ?c4 ?k4
    (case a4 => k_is); (case l4 => k_is); (case c4 => k_is); (case k4 => k_is)

