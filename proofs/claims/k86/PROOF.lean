import PyProof.Rows.All
import Wide.All
import OpenK.AllK
import Wide.FinOn
import Lean
import PyProof.EqAt
import PyProof.EqKinds
import PyProof.TupleCall
import PySem.Challenge.RW_phialhouse_k86_whole_more_turns
set_option Elab.async false
set_option linter.all false
set_option maxRecDepth 100000
set_option maxHeartbeats 4000000
/-! THE HAND LAYER, for ints, bools, texts, own classes, LISTS and tuples (index, slices, in, append, pop ..), calls, loops. Paste it whole ahead of your own text; what your proof does not reach may be deleted. -/
namespace L2
open PySem PySem.Spec PyProof.Rows

/-- a key: an int or a str -/
abbrev Key := Sum Int Str
def keyIs : Key → Value → Bool
  | .inl k, v => Value.isInt k v
  | .inr x, v => Value.isStrOf x v
def keyH (w : World) : Key → Int
  | .inl k => hashInt k
  | .inr x => hashStr w x
theorem keyIs_shape : ∀ {k : Key} {v : Value}, keyIs k v = true → (∃ i t, k = Sum.inl i ∧ v = Value.int i t) ∨ (∃ x t, k = Sum.inr x ∧ v = Value.str x t)
  | .inl i, v, h => by
    obtain ⟨t, e⟩ := Value.isInt_shape (k := i) (v := v) h
    exact .inl ⟨i, t, rfl, e⟩
  | .inr x, v, h => by
    obtain ⟨t, e⟩ := Value.isStrOf_shape (x := x) (v := v) h
    exact .inr ⟨x, t, rfl, e⟩
theorem keyIs_int (i : Int) (t : Tok) : keyIs (.inl i) (.int i t) = true := by simp [keyIs, Value.isInt]
theorem keyIs_str (x : Str) (t : Tok) : keyIs (.inr x) (.str x t) = true := by simp [keyIs, Value.isStrOf]
theorem key_ll (a b : Int) : decide ((Sum.inl a : Key) = Sum.inl b) = (a == b) := by
  by_cases e : a = b
  · subst e; simp
  · have h : ¬ (Sum.inl a : Key) = Sum.inl b := fun q => e (Sum.inl.inj q)
    rw [decide_eq_false h]
    exact (beq_eq_false_iff_ne.mpr e).symm
theorem key_rr (a b : Str) : decide ((Sum.inr a : Key) = Sum.inr b) = decide (a = b) := by
  by_cases e : a = b
  · subst e; simp
  · have h : ¬ (Sum.inr a : Key) = Sum.inr b := fun q => e (Sum.inr.inj q)
    rw [decide_eq_false h, decide_eq_false e]
theorem key_lr (a : Int) (b : Str) : decide ((Sum.inl a : Key) = Sum.inr b) = false := decide_eq_false (fun q => nomatch q)
theorem key_rl (a : Str) (b : Int) : decide ((Sum.inr a : Key) = Sum.inl b) = false := decide_eq_false (fun q => nomatch q)

def mixKind (prog : Program) (w : World) : PySem.KeyKind prog w Key where
  is := keyIs
  hash := keyH w
  inj := fun v a b ha hb => by
    rcases keyIs_shape ha with ⟨i, t, rfl, rfl⟩ | ⟨x, t, rfl, rfl⟩
    · rcases keyIs_shape hb with ⟨j, u, rfl, e⟩ | ⟨y, u, rfl, e⟩
      · injection e with e1 _; rw [e1]
      · exact nomatch e
    · rcases keyIs_shape hb with ⟨j, u, rfl, e⟩ | ⟨y, u, rfl, e⟩
      · exact nomatch e
      · injection e with e1 _; rw [e1]
  byValue := fun k v h => by
    rcases keyIs_shape h with ⟨i, t, rfl, rfl⟩ | ⟨x, t, rfl, rfl⟩ <;> rfl
  pyHash := fun hv h => by
    rcases keyIs_shape hv with ⟨i, t, rfl, rfl⟩ | ⟨x, t, rfl, rfl⟩
    · exact wpAny_pyHash_int h
    · exact wpAny_pyHash_str h
  eqBool := fun hu hv h => by
    rcases keyIs_shape hu with ⟨i, t, rfl, rfl⟩ | ⟨x, t, rfl, rfl⟩
    · rcases keyIs_shape hv with ⟨j, u, rfl, rfl⟩ | ⟨y, u, rfl, rfl⟩
      · rw [key_ll] at h; exact wpAny_eqBool_int h
      · rw [key_lr] at h; exact SeqAt.EqAt.int_str i t y u _ _ _ _ h
    · rcases keyIs_shape hv with ⟨j, u, rfl, rfl⟩ | ⟨y, u, rfl, rfl⟩
      · rw [key_rl] at h; exact SeqAt.EqAt.str_int x t j u _ _ _ _ h
      · rw [key_rr] at h; exact wpAny_eqBool_str h
  «strs» := fun k x t v h => by
    rcases keyIs_shape h with ⟨i, u, rfl, e⟩ | ⟨y, u, rfl, e⟩
    · exact nomatch e
    · injection e with e1 _
      subst e1
      cases v <;> rfl

theorem mixKind_int (prog : Program) (w : World) (i : Int) (t : Tok) : (mixKind prog w).is (.inl i) (.int i t) = true := keyIs_int i t
theorem mixKind_str (prog : Program) (w : World) (x : Str) (t : Tok) : (mixKind prog w).is (.inr x) (.str x t) = true := keyIs_str x t
end L2

namespace L2
open PySem PySem.Spec PyProof.Rows

/-- a value, without the heap -/
inductive V where
  | non | bl (b : Bool) | int (i : Int) | str (x : Str) | byt (b : Array UInt8) | flt (b : UInt64) | ref (a : Addr) | ty (n : String)
  deriving DecidableEq

def RelV : V → Value → Prop
  | .non, u => u = Value.none
  | .bl b, u => u = Value.bool b
  | .int i, u => ∃ t, u = Value.int i t
  | .str x, u => ∃ t, u = Value.str x t
  | .byt b, u => ∃ t, u = Value.bytes b t
  | .flt b, u => ∃ t, u = Value.float b t
  | .ref a, u => u = Value.ref a
  | .ty n, u => u = Value.type n

abbrev Vals : List V → List Value → Prop := Paired RelV
theorem Vals.length {xs : List V} {us : List Value} (r : Vals xs us) : xs.length = us.length := Paired.length r
theorem Vals.get : ∀ {xs : List V} {us : List Value} {i : Nat} {x : V}, Vals xs us → xs[i]? = some x → ∃ u, us[i]? = some u ∧ RelV x u
  | _, _, _, _, .nil, e => by simp at e
  | _, _, 0, _, .cons r _, e => by simp at e; subst e; exact ⟨_, rfl, r⟩
  | _, _, i + 1, x, .cons _ t, e => by
    obtain ⟨u, h1, h2⟩ := Vals.get (i := i) (x := x) t (by simpa using e)
    exact ⟨u, by simpa using h1, h2⟩
theorem Vals.set {x : V} {u : Value} (r : RelV x u) : ∀ {xs : List V} {us : List Value} (i : Nat), Vals xs us → Vals (xs.set i x) (us.set i u)
  | _, _, _, .nil => .nil
  | _, _, 0, .cons _ t => .cons r t
  | _, _, i + 1, .cons q t => .cons q (Vals.set r i t)
theorem Vals.append : ∀ {xs ys : List V} {us ws : List Value}, Vals xs us → Vals ys ws → Vals (xs ++ ys) (us ++ ws)
  | _, _, _, _, .nil, s => s
  | _, _, _, _, .cons r t, s => .cons r (Vals.append t s)
theorem Vals.take : ∀ {xs : List V} {us : List Value} (n : Nat), Vals xs us → Vals (xs.take n) (us.take n)
  | _, _, 0, _ => .nil
  | _, _, _ + 1, .nil => .nil
  | _, _, n + 1, .cons r t => .cons r (Vals.take n t)
theorem Vals.drop : ∀ {xs : List V} {us : List Value} (n : Nat), Vals xs us → Vals (xs.drop n) (us.drop n)
  | _, _, 0, r => r
  | _, _, _ + 1, .nil => .nil
  | _, _, n + 1, .cons _ t => Vals.drop n t
def RelO : Option V → Option Value → Prop
  | some v, some u => RelV v u
  | none, none => True
  | _, _ => False
def KV {κ : Type} : List (κ × V) → List (κ × Value) → Prop := Paired fun (p : κ × V) (q : κ × Value) => p.1 = q.1 ∧ RelV p.2 q.2

/-- a key of a dict (00_mix): an int or a text -/
def kV : Key → V
  | .inl i => .int i
  | .inr x => .str x

/-- what stands at a tracked address -/
inductive HO where
  /-- a list -/
  | lst (xs : List V)
  /-- a tuple (never changes) -/
  | tup (xs : List V)
  /-- a dict whose keys are ints and texts; one whose keys are tuples of ints and texts (the empty one is both) -/
  | dK (kvs : List (Key × V)) | dT (kvs : List (List Key × V))
  /-- a set of ints: its members, its size -/
  | set (S : Int → Bool) (n : Nat)
  /-- an instance of the class at C, its dict at dx, its attributes -/
  | ins (C dx : Addr) (fs : List (Str × V))
  /-- the dict of the instance at x -/
  | own (x : Addr)
  /-- the dict of an exception -/
  | xd (fs : List (Str × V))
  /-- a bound method, f of x -/
  | met (f x : Addr)
  /-- a range object lo, lo + 1, .. below hi -/
  | rng (lo hi : Int)
  /-- a thing that is known to the object (the script; a dict while a loop walks it): read, never written while it is so -/
  | frz (o : Obj) (u : HO)
  /-- a code object's table -/
  | tbl (ps : Array Value)
  /-- any other thing, by what is true of its one object (a def of one's own: SetO a S n := HO.ext fun h => ..) -/
  | ext (φ : Heap → Prop)

abbrev Hp := Addr → Option HO
def upd (H : Hp) (a : Addr) (o : HO) : Hp := fun b => if b = a then some o else H b
theorem upd_same {H : Hp} {a : Addr} {o : HO} : upd H a o a = some o := by unfold upd; rw [if_pos rfl]
theorem upd_ne {H : Hp} {a b : Addr} {o : HO} (h : b ≠ a) : upd H a o b = H b := by unfold upd; rw [if_neg h]
/-- two objects of different content stand apart -/
theorem ne_of {H : Hp} {a b : Addr} {o u : HO} (h : H a = some o) (h' : H b = some u) (d : o ≠ u) : a ≠ b := by
  intro e; subst e; rw [h] at h'; exact d (Option.some.inj h')
theorem ne_of_none {H : Hp} {a b : Addr} {o : HO} (h : H a = some o) (h' : H b = none) : a ≠ b := by
  intro e; subst e; rw [h] at h'; cases h'

section
variable (P : Program) (w : World)
def ObjOk (H : Hp) (h : Heap) (a : Addr) : HO → Prop
  | .lst xs => xs.length ≤ sizeLine ∧ ∃ (its : List Value) (n : Nat), Vals xs its ∧ h.get? a = some { cls := .type "list", data := .seq its.toArray n }
  | .tup xs => xs.length ≤ sizeLine ∧ ∃ its : List Value, Vals xs its ∧ IsTup h a its.toArray
  | .dK kvs => kvs.length ≤ sizeLine ∧ (a == sysModules) = false ∧ ∃ vs, KV kvs vs ∧ h.DictOf (mixKind P w) a vs
  | .dT kvs => kvs.length ≤ sizeLine ∧ (a == sysModules) = false ∧ ∃ xs : List (List Key × Addr × Value),
      Paired (fun (p : List Key × V) (q : List Key × Addr × Value) => p.1 = q.1 ∧ H q.2.1 = some (.tup (p.1.map kV)) ∧ RelV p.2 q.2.2) kvs xs ∧
      ∃ o es ep, h.get? a = some o ∧ o.ExactDict ∧ o.data = .dict es ep ∧ es.toList = xs.map (entryOfKey (tupleKind (mixKind P w))) ∧ (xs.map (·.1)).Nodup
  | .set S n => h.SetOf (intKind P w) a S n
  | .ins C dx fs => H dx = some (.own a) ∧ fs.length ≤ 1000 ∧ dx ≠ a ∧ h.get? a = some (PySem.W.instObj C dx) ∧
      ∃ mA, h.Ns1 dx mA ∧ (∀ f, RelO (fs.lookup f) (mA f)) ∧ PySem.Within mA (fs.map (·.1))
  | .own _ => ∃ o, h.get? a = some o
  | .xd fs => ∃ mA, h.Ns1 a mA ∧ ∀ f, RelO (fs.lookup f) (mA f)
  | .rng lo hi => ∃ t u v, h.get? a = some { cls := .type "range", data := .fields #[.int lo t, .int hi u, .int 1 v] }
  | .frz o u => h.get? a = some o ∧ ObjOk H h a u
  | .tbl ps => h.get? a = some { cls := .none, data := .fields ps }
  | .met f x => h.get? a = some (PySem.W.methodObj (.ref f) (.ref x))
  | .ext φ => φ h ∧ (∃ o, h.get? a = some o) ∧ ∀ h1 h2 : Heap, φ h1 → (∀ o, h1.get? a = some o → h2.get? a = some o) → φ h2
/-- the abstract heap is held -/
def HOk (H : Hp) (h : Heap) : Prop := ∀ a o, H a = some o → ObjOk P w H h a o
end

section
variable {P : Program} {w : World} {H H' : Hp} {h h' : Heap} {a : Addr} {o : HO}
theorem ObjOk.lt (x : ObjOk P w H h a o) : a < h.objs.size := by
  cases o with
  | lst xs => obtain ⟨_, _, _, _, e⟩ := x; exact Heap.lt_size e
  | tup xs => obtain ⟨_, _, _, p⟩ := x; exact p.lt
  | dK kvs => obtain ⟨_, _, _, _, o, _, _, e, _⟩ := x; exact Heap.lt_size e
  | dT kvs => obtain ⟨_, _, _, _, o, _, _, e, _⟩ := x; exact Heap.lt_size e
  | set S n => obtain ⟨o, _, _, _, e, _⟩ := x; exact Heap.lt_size e
  | ins C dx fs => obtain ⟨_, _, _, e, _⟩ := x; exact Heap.lt_size e
  | own y => obtain ⟨_, e⟩ := x; exact Heap.lt_size e
  | xd fs => obtain ⟨_, ⟨_, _, _, e, _⟩, _⟩ := x; exact Heap.lt_size e
  | rng lo hi => obtain ⟨_, _, _, e⟩ := x; exact Heap.lt_size e
  | frz ob u => obtain ⟨e, _⟩ := x; exact Heap.lt_size e
  | tbl ps => exact Heap.lt_size (show h.get? a = some _ from x)
  | met f y => exact Heap.lt_size (show h.get? a = some _ from x)
  | ext φ => obtain ⟨_, ⟨_, e⟩, _⟩ := x; exact Heap.lt_size e
theorem Paired.mapP {α β : Type} {F G : α → β → Prop} : ∀ {l₁ : List α} {l₂ : List β}, Paired F l₁ l₂ → (∀ a b, F a b → G a b) → Paired G l₁ l₂
  | _, _, .nil, _ => .nil
  | _, _, .cons r t, f => .cons (f _ _ r) (Paired.mapP t f)
/-- what an object's description leans on: its own object, its own dict, the tuples -/
theorem ObjOk.stay (x : ObjOk P w H h a o) (k : ∀ b u, (b = a ∨ H b = some (.own a)) → h.get? b = some u → h'.get? b = some u)
    (ho : ∀ b, H b = some (.own a) → H' b = some (.own a)) (ht : ∀ b xs, H b = some (.tup xs) → H' b = some (.tup xs)) : ObjOk P w H' h' a o := by
  induction o with
  | lst xs => obtain ⟨z, its, n, r, e⟩ := x; exact ⟨z, its, n, r, k _ _ (.inl rfl) e⟩
  | tup xs => obtain ⟨z, its, r, ob, e, c⟩ := x; exact ⟨z, its, r, ob, k _ _ (.inl rfl) e, c⟩
  | dK kvs => obtain ⟨z, y, vs, r, ob, es, ep, e, c⟩ := x; exact ⟨z, y, vs, r, ob, es, ep, k _ _ (.inl rfl) e, c⟩
  | dT kvs =>
    obtain ⟨z, y, xs, r, ob, es, ep, e, c⟩ := x
    exact ⟨z, y, xs, Paired.mapP r fun p q z => ⟨z.1, ht _ _ z.2.1, z.2.2⟩, ob, es, ep, k _ _ (.inl rfl) e, c⟩
  | set S n => obtain ⟨ob, es, ep, t, e, c⟩ := x; exact ⟨ob, es, ep, t, k _ _ (.inl rfl) e, c⟩
  | ins C dx fs =>
    obtain ⟨d, z, ne, e, mA, ⟨od, es, ep, e2, c⟩, r⟩ := x
    exact ⟨ho _ d, z, ne, k _ _ (.inl rfl) e, mA, ⟨od, es, ep, k _ _ (.inr d) e2, c⟩, r⟩
  | own y => obtain ⟨ob, e⟩ := x; exact ⟨ob, k _ _ (.inl rfl) e⟩
  | xd fs => obtain ⟨mA, ⟨od, es, ep, e, c⟩, r⟩ := x; exact ⟨mA, ⟨od, es, ep, k _ _ (.inl rfl) e, c⟩, r⟩
  | rng lo hi => obtain ⟨t, u, v, e⟩ := x; exact ⟨t, u, v, k _ _ (.inl rfl) e⟩
  | frz ob u ih => obtain ⟨e, q⟩ := x; exact ⟨k _ _ (.inl rfl) e, ih q⟩
  | tbl ps =>
    have e : h.get? a = some { cls := .none, data := .fields ps } := x
    show h'.get? a = some { cls := .none, data := .fields ps }
    exact k a _ (.inl rfl) e
  | met f y =>
    have e : h.get? a = some (PySem.W.methodObj (.ref f) (.ref y)) := x
    show h'.get? a = some (PySem.W.methodObj (.ref f) (.ref y))
    exact k a _ (.inl rfl) e
  | ext φ => obtain ⟨p, ⟨o, e⟩, st⟩ := x; exact ⟨st _ _ p fun o q => k _ _ (.inl rfl) q, ⟨o, k _ _ (.inl rfl) e⟩, st⟩
theorem HOk.lt (x : HOk P w H h) (e : H a = some o) : a < h.objs.size := (x a o e).lt
theorem HOk.fresh (x : HOk P w H h) (e : h.objs.size ≤ a) : H a = none := by
  cases q : H a with
  | none => rfl
  | some u => exact absurd (Nat.lt_of_lt_of_le (x.lt q) e) (Nat.lt_irrefl _)
/-- every object of the heap is kept -/
theorem HOk.kept (x : HOk P w H h) (k : ∀ b u, h.get? b = some u → h'.get? b = some u) : HOk P w H h' := fun a o e =>
  (x a o e).stay (fun b u _ q => k b u q) (fun _ q => q) fun _ _ q => q
/-- a new object is laid and tracked -/
theorem HOk.laid (x : HOk P w H h) (k : ∀ b u, h.get? b = some u → h'.get? b = some u) (hp : h.objs.size ≤ a) (new : ObjOk P w (upd H a o) h' a o) : HOk P w (upd H a o) h' := fun b u e => by
  have hn := x.fresh hp
  by_cases hb : b = a
  · subst hb; rw [upd_same] at e; cases e; exact new
  · rw [upd_ne hb] at e
    exact (x b u e).stay (fun c v _ q => k c v q) (fun c q => by rw [upd_ne (ne_of_none q hn)]; exact q) fun c xs q => by rw [upd_ne (ne_of_none q hn)]; exact q
end

/-- what may be read as u: it is u, or a known u -/
def Rd (H : Hp) (a : Addr) (u : HO) : Prop := H a = some u ∨ ∃ o, H a = some (.frz o u)
theorem Rd.ok {P : Program} {w : World} {H : Hp} {h : Heap} {a : Addr} {u : HO} (r : Rd H a u) (x : HOk P w H h) : ObjOk P w H h a u := by
  rcases r with r | ⟨o, r⟩
  · exact x a u r
  · obtain ⟨_, q⟩ := x a _ r
    exact q
/-- what may be written -/
def Mut : Option HO → Prop
  | some (.lst _) => True
  | some (.dK _) => True
  | some (.dT _) => True
  | some (.set _ _) => True
  | some (.ins _ _ _) => True
  | some (.ext _) => True
  | _ => False
section
variable {P : Program} {w : World} {H : Hp} {h h' : Heap} {x e : Addr} {o' : HO}
/-- the object at e is changed: x itself, or the dict of the instance x -/
theorem HOk.write (ok : HOk P w H h) (mu : Mut (H x)) (he : e = x ∨ H e = some (.own x)) (k : ∀ b u, b ≠ e → h.get? b = some u → h'.get? b = some u) (heo : ∃ u, h'.get? e = some u)
    (new : ObjOk P w (upd H x o') h' x o') : HOk P w (upd H x o') h' := fun b u q => by
  have nown : ∀ c y, H c = some (.own y) → c ≠ x := fun c y r z => by subst z; rw [r] at mu; exact mu
  have ntup : ∀ c xs, H c = some (.tup xs) → c ≠ x := fun c xs r z => by subst z; rw [r] at mu; exact mu
  by_cases hb : b = x
  · subst hb; rw [upd_same] at q; cases q; exact new
  · rw [upd_ne hb] at q
    by_cases hbe : b = e
    · have q' : H b = some (.own x) := by
        rcases he with z | z
        · exact absurd (hbe.trans z) hb
        · rw [hbe]; exact z
      rw [q] at q'; cases q'
      obtain ⟨v, hv⟩ := heo
      exact ⟨v, by rw [hbe]; exact hv⟩
    · refine (ok b u q).stay (fun c v hc r => k c v ?_ r) (fun c r => by rw [upd_ne (nown c b r)]; exact r) fun c xs r => by rw [upd_ne (ntup c xs r)]; exact r
      rcases hc with rfl | hc
      · exact hbe
      · rintro rfl
        rcases he with z | z
        · exact nown c b hc z
        · rw [hc] at z; cases z; exact hb rfl
end

/-! ### kept unless tracked; of the frames at fs (the callers') the slots may change (an exception that passes writes there); of the records at ex (iterators) nothing is said -/
structure Un (fs ex : List Addr) (H H' : Hp) (h h' : Heap) : Prop where
  keep : ∀ b o, h.get? b = some o → H b = none → b ∉ fs → b ∉ ex → h'.get? b = some o
  slot : ∀ b o, h.get? b = some o → H b = none → b ∈ fs → b ∉ ex → ∃ sl, h'.get? b = some { o with slots := sl }
  free : ∀ b o, h.get? b = some o → H b = none → b ∉ ex → H' b = none
  there : ∀ b o, h.get? b = some o → b ∉ ex → ∃ o', h'.get? b = some o'
  tups : ∀ b xs, H b = some (.tup xs) → H' b = some (.tup xs)
  frzs : ∀ b o u, H b = some (.frz o u) → H' b = some (.frz o u)
  tbls : ∀ b ps, H b = some (.tbl ps) → ∃ more, H' b = some (.tbl (ps ++ more))
section
variable {fs fs' ex ex' : List Addr} {H H1 H2 : Hp} {h h1 h2 h' : Heap} {a x e : Addr} {o : HO}
theorem Un.any (u : Un fs ex H H1 h h1) {b : Addr} {ob : Obj} (q : h.get? b = some ob) (n : H b = none) (hx : b ∉ ex) : ∃ sl, h1.get? b = some { ob with slots := sl } := by
  by_cases hb : b ∈ fs
  · exact u.slot b ob q n hb hx
  · exact ⟨ob.slots, u.keep b ob q n hb hx⟩
theorem Un.kept (k : ∀ b u, h.get? b = some u → h'.get? b = some u) : Un fs ex H H h h' :=
  ⟨fun b ob q _ _ _ => k b ob q, fun b ob q _ _ _ => ⟨ob.slots, k b ob q⟩, fun _ _ _ n _ => n, fun b ob q _ => ⟨ob, k b ob q⟩, fun _ _ q => q, fun _ _ _ q => q, fun _ ps q => ⟨#[], by rw [q]; simp⟩⟩
theorem Un.refl : Un fs ex H H h h := Un.kept fun _ _ q => q
theorem Un.laid (k : ∀ b u, h.get? b = some u → h'.get? b = some u) (hp : h.objs.size ≤ a) (hn : H a = none) : Un fs ex H (upd H a o) h h' where
  keep := fun b u q _ _ _ => k b u q
  slot := fun b u q _ _ _ => ⟨u.slots, k b u q⟩
  free := fun b u q n _ => by rw [upd_ne (Nat.ne_of_lt (Nat.lt_of_lt_of_le (Heap.lt_size q) hp))]; exact n
  there := fun b u q _ => ⟨u, k b u q⟩
  tups := fun b xs q => by rw [upd_ne (ne_of_none q hn)]; exact q
  frzs := fun b u xs q => by rw [upd_ne (ne_of_none q hn)]; exact q
  tbls := fun b ps q => ⟨#[], by rw [upd_ne (ne_of_none q hn), q]; simp⟩
theorem Un.write (mu : Mut (H x)) (he : e = x ∨ H e = some (.own x)) (k : ∀ b u, b ≠ e → h.get? b = some u → h'.get? b = some u) (heo : ∃ u, h'.get? e = some u) : Un fs ex H (upd H x o) h h' := by
  have hx : ∀ b, H b = none → b ≠ x := fun b n z => by subst z; rw [n] at mu; exact mu
  have hb : ∀ b, H b = none → b ≠ e := fun b n z => by
    subst z
    rcases he with r | r
    · exact hx b n r
    · rw [n] at r; cases r
  have hm : ∀ b u, H b = some u → ¬ Mut (some u) → b ≠ x := fun b u q nm z => by subst z; rw [q] at mu; exact nm mu
  refine ⟨fun b u q n _ _ => k b u (hb b n) q, fun b u q n _ _ => ⟨u.slots, k b u (hb b n) q⟩, fun b u q n _ => by rw [upd_ne (hx b n)]; exact n, fun b u q _ => ?_,
    fun b xs q => by rw [upd_ne (hm b _ q fun z => z)]; exact q, fun b u xs q => by rw [upd_ne (hm b _ q fun z => z)]; exact q, fun b ps q => ⟨#[], by rw [upd_ne (hm b _ q fun z => z), q]; simp⟩⟩
  by_cases hbe : b = e
  · subst hbe; exact heo
  · exact ⟨u, k b u hbe q⟩
end

/-! ### the heap without what is tracked -/
def trk (h : Heap) (H : Hp) : List Addr := (List.range h.objs.size).filter fun a => (H a).isSome
def hidT (h : Heap) (H : Hp) : Heap := PySem.W.hideAll h (trk h H)
theorem hidT_size (h : Heap) (H : Hp) : (hidT h H).objs.size = h.objs.size := PySem.W.hideAll_size _ _
theorem hidT_get {h : Heap} {H : Hp} {b : Addr} {o : Obj} (e : h.get? b = some o) (n : H b = none) : (hidT h H).get? b = some o :=
  PySem.W.hideAll_get _ e fun hm => by
    have q : (H b).isSome = true := (List.mem_filter.mp hm).2
    rw [n] at q; simp at q
theorem of_hidT {h : Heap} {H : Hp} {b : Addr} {o : Obj} (e : (hidT h H).get? b = some o) : h.get? b = some o ∧ H b = none := by
  have e' : h.get? b = some o := PySem.W.of_hideAll (trk h H) e
  refine ⟨e', ?_⟩
  cases q : H b with
  | none => rfl
  | some x =>
    have hm : b ∈ trk h H := List.mem_filter.mpr ⟨List.mem_range.mpr (Heap.lt_size e'), by simp [q]⟩
    have z : (hidT h H).get? b = none := PySem.W.hideAll_none (trk h H) hm
    rw [z] at e; cases e

/-! ### OpenK's ledger, filled with every new object but one -/
def allNews (g h : Heap) (L : Addr) : List (Addr × Obj) := (List.range h.objs.size).filterMap fun a => if a = L ∨ (g.get? a).isSome = true then none else (h.get? a).map fun o => (a, o)
theorem mem_allNews {g h : Heap} {L a : Addr} {o : Obj} (h1 : a ≠ L) (h2 : g.get? a = none) (h3 : h.get? a = some o) : (a, o) ∈ allNews g h L :=
  List.mem_filterMap.mpr ⟨a, List.mem_range.mpr (Heap.lt_size h3), by simp [h1, h2, h3]⟩
theorem of_mem_allNews {g h : Heap} {L : Addr} {p : Addr × Obj} (hp : p ∈ allNews g h L) : p.1 ≠ L ∧ g.get? p.1 = none ∧ h.get? p.1 = some p.2 := by
  obtain ⟨b, _, e⟩ := List.mem_filterMap.mp hp
  split at e
  · cases e
  · rename_i hn
    cases q : h.get? b with
    | none => rw [q] at e; simp at e
    | some u =>
      rw [q] at e
      simp only [Option.map_some, Option.some.injEq] at e
      subst e
      refine ⟨fun z => hn (.inl z), ?_, q⟩
      show g.get? b = none
      cases r : g.get? b with
      | none => rfl
      | some v => exact (hn (.inr (by simp [r]))).elim
def rest (g h : Heap) (L d : Addr) : List (Addr × Obj) := (allNews g h L).filter fun p => decide (p.1 ≠ d)
theorem news_all {g h : Heap} {L : Addr} : News g L h (allNews g h L) := fun p hp => let ⟨a, b, c⟩ := of_mem_allNews hp; ⟨c, a, b⟩
end L2

namespace L2
open PySem PySem.Spec PyProof.Rows

/-- the module's facts, over the base: the heap at the law's entry without what is tracked there -/
structure Mod (K : PySem.W.Frag) (mg : Str → Option Value) (base : Heap) : Prop where
  kin : K.In base
  glob : base.Ns mainGlobals mg
  blt : ∃ mb, base.Ns builtinsNs mb ∧ ∀ x : Str, x ≠ "__name__" → mb x = bootBuiltins x
  nolimit : base.NoLimit

/-- the context: a def's body (or a comprehension's block) running. base: fixed through the whole law; s₀, H₀: the entry; outer: the frames whose slots others may change (a def's callers); stack: all frames that run;
   ex: iterators that were made ahead of the entry and are walked here (a comprehension's); fn: the names whose cells were made at the entry (a def: all; a comprehension's block: its own); calm: not within an except suite; pn: pins that every state bears; xe: what is wanted of an exception that leaves the code -/
structure Cx where
  prog : Program
  w : World
  K : PySem.W.Frag
  mg : Str → Option Value
  base : Heap
  A : Around
  N : List Str
  s₀ : Shared
  H₀ : Hp
  env : Env
  outer : List Env
  stack : List Env
  ex : List Addr
  fn : Str → Bool
  calm : Bool
  pn : List (Addr × Obj)
  xe : Value → Shared → Prop
/-- the callers' frames -/
def frs (l : List Env) : List Addr := l.filterMap (·.frame)
abbrev Cx.fs (X : Cx) : List Addr := frs X.outer

def Vis (sc : Scope) (x : Str) : Prop := sc.names.lookup x = some .local ∨ sc.names.lookup x = some .cell ∨ sc.names.lookup x = some .free
def Loc (sc : Scope) (x : Str) : Prop := sc.names.lookup x = some .local ∨ sc.names.lookup x = some .cell
def Look (env : Env) (h : Heap) (m : Str → Option Value) (x : Str) (u : Value) : Prop :=
  (env.kindOf x = some .local ∧ m x = some u) ∨ ((env.kindOf x = some .cell ∨ env.kindOf x = some .free) ∧ ∃ c, env.cells.lookup x = some c ∧ h.IsCell c (some u))

structure Cx.Ok (X : Cx) : Prop where
  mod : Mod X.K X.mg X.base
  kind : X.env.scope.kind = .function
  glob : X.env.globals = mainGlobals
  blt : X.env.builtins = builtinsNs
  above : X.s₀.heap.objs.size ≤ X.env.locals
  inj : ∀ x y c, X.env.cells.lookup x = some c → X.env.cells.lookup y = some c → x = y
  has : ∀ x, (X.env.kindOf x = some .cell ∨ X.env.kindOf x = some .free) → ∃ c, X.env.cells.lookup x = some c
  cab : ∀ x c, X.fn x = true → X.env.cells.lookup x = some c → X.s₀.heap.objs.size ≤ c
  hd : X.calm = true → X.A.handled = none
  frames : X.A.frames = some X.stack
  stk : X.stack = X.outer ∨ (X.stack = X.env :: X.outer ∧ X.env.frame = some X.env.locals)
  exf : ∀ b ∈ X.ex, b ≠ X.env.locals ∧ ∀ x c, X.env.cells.lookup x = some c → c ≠ b
  bs : ∀ b o, X.base.get? b = some o → X.s₀.heap.get? b = some o ∧ X.H₀ b = none
  bsz : X.base.objs.size ≤ X.s₀.heap.objs.size
  noex : ∀ b o, X.base.get? b = some o → b ∉ X.ex
  exfs : ∀ b ∈ X.ex, b ∉ X.fs
  funs : X.s₀.heap.FunFrames X.base X.outer
  frf : ∀ b ∈ X.fs, X.H₀ b = none

structure Inv (X : Cx) (pins : List (Addr × Obj)) (σ : List (Option V)) (H : Hp) (s : Shared) : Prop where
  ok : X.Ok
  os : s.os = X.s₀.os
  bare : AllBare s.gens
  base : Un X.fs X.ex X.H₀ H X.s₀.heap s.heap
  loc : ∃ m, s.heap.Ns X.env.locals m ∧ ∀ (i : Nat) (x : Str) (v : V), X.N[i]? = some x → σ[i]? = some (some v) → Vis X.env.scope x → ∃ u, RelV v u ∧ Look X.env s.heap m x u
  cell : ∀ x c, X.env.cells.lookup x = some c → ∃ v, s.heap.IsCell c v
  free : H X.env.locals = none
  freeC : ∀ x c, X.env.cells.lookup x = some c → H c = none
  pin : ∀ p ∈ X.pn ++ pins, s.heap.get? p.1 = some p.2 ∧ H p.1 = none ∧ p.1 ≠ X.env.locals ∧ p.1 ∉ X.fs ∧ ∀ v, p.2.data ≠ .cell v
  hok : HOk X.prog X.w H s.heap
  len : σ.length = X.N.length

section
variable {X : Cx} {pins : List (Addr × Obj)} {σ : List (Option V)} {H H' : Hp} {s : Shared} {h' : Heap}

theorem Cx.Ok.nofr (ok : X.Ok) {b : Addr} {o : Obj} (e : X.base.get? b = some o) : b ∉ X.fs := fun hb => by
  have := (ok.funs.mem hb).1
  rw [e] at this; cases this
theorem Inv.bs (I : Inv X pins σ H s) : ∀ b o, X.base.get? b = some o → s.heap.get? b = some o ∧ H b = none := fun b o e =>
  ⟨I.base.keep b o (I.ok.bs b o e).1 (I.ok.bs b o e).2 (I.ok.nofr e) (I.ok.noex b o e), I.base.free b o (I.ok.bs b o e).1 (I.ok.bs b o e).2 (I.ok.noex b o e)⟩
theorem Inv.bk (I : Inv X pins σ H s) : ∀ b o, X.base.get? b = some o → s.heap.get? b = some o := fun b o e => (I.bs b o e).1
theorem Inv.mod (I : Inv X pins σ H s) : Mod X.K X.mg X.base := I.ok.mod
theorem Inv.kIn (I : Inv X pins σ H s) : X.K.In s.heap := I.ok.mod.kin.keeps I.bk
/-- the frame over the base: for OpenK's rules (K.In X.base is I.mod.kin) -/
theorem Inv.fr (I : Inv X pins σ H s) : ∃ m, Fr X.base X.env.locals s.heap m :=
  let ⟨m, hn, _⟩ := I.loc
  ⟨m, hn, I.bk, Nat.le_trans I.ok.bsz I.ok.above⟩
theorem Inv.lt (I : Inv X pins σ H s) : X.env.locals < s.heap.objs.size := let ⟨_, hn, _⟩ := I.loc; hn.lt
theorem Inv.sz (I : Inv X pins σ H s) : X.s₀.heap.objs.size ≤ s.heap.objs.size := Nat.le_trans I.ok.above (Nat.le_of_lt I.lt)
theorem Inv.nofs (I : Inv X pins σ H s) {a : Addr} (h : s.heap.objs.size ≤ a) : a ∉ X.fs := fun hb => by
  obtain ⟨_, o, ho, _⟩ := I.ok.funs.mem hb
  exact absurd (Nat.lt_of_lt_of_le (Heap.lt_size ho) (Nat.le_trans I.sz h)) (Nat.lt_irrefl _)
theorem Inv.cne (I : Inv X pins σ H s) : ∀ x c, X.env.cells.lookup x = some c → c ≠ X.env.locals := fun x c e z => by
  obtain ⟨v, o, ho, hd⟩ := I.cell x c e
  obtain ⟨m, ⟨o', es, ep, ho', hd', _⟩, _⟩ := I.loc
  rw [z, ho'] at ho; cases ho; rw [hd'] at hd; cases hd
theorem Inv.funs (I : Inv X pins σ H s) : s.heap.FunFrames X.base X.outer := by
  have all : ∀ (l : List Env), (∀ b ∈ frs l, b ∈ X.fs) → X.s₀.heap.FunFrames X.base l → s.heap.FunFrames X.base l := by
    intro l
    induction l with
    | nil => intro _ _; trivial
    | cons env r ih =>
      intro hs hl
      obtain ⟨hk, ⟨L, o, hf, hn, ho, hd⟩, hr⟩ := hl
      have hL : L ∈ X.fs := hs L (by unfold frs; rw [List.filterMap_cons, hf]; exact List.mem_cons_self)
      obtain ⟨sl, e⟩ := I.base.slot L o ho (I.ok.frf L hL) hL fun z => I.ok.exfs L z hL
      exact ⟨hk, ⟨L, _, hf, hn, e, hd⟩, ih (fun b hb => hs b (by unfold frs; rw [List.filterMap_cons, hf]; exact List.mem_cons_of_mem _ hb)) hr⟩
  exact all X.outer (fun _ hb => hb) I.ok.funs

/-- the frames that run, for a call -/
theorem Inv.stack (I : Inv X pins σ H s) : s.heap.FunFrames X.base X.stack := by
  rcases I.ok.stk with e | ⟨e, hf⟩
  · rw [e]; exact I.funs
  · rw [e]
    obtain ⟨m, hn, _⟩ := I.loc
    refine .cons (by rw [I.ok.kind]; decide) hf hn ?_ I.funs
    exact Heap.get?_none_of_le (Nat.le_trans I.ok.bsz I.ok.above)
theorem Inv.stkSub (I : Inv X pins σ H s) : ∀ b ∈ frs X.stack, b ∈ X.env.locals :: X.fs := fun b hb => by
  rcases I.ok.stk with e | ⟨e, hf⟩
  · rw [e] at hb; exact List.mem_cons_of_mem _ hb
  · rw [e] at hb
    unfold frs at hb
    rw [List.filterMap_cons, hf] at hb
    exact hb
theorem Inv.stkFree (I : Inv X pins σ H s) : ∀ b ∈ frs X.stack, H b = none := fun b hb => by
  rcases List.mem_cons.mp (I.stkSub b hb) with e | hb
  · rw [e]; exact I.free
  · obtain ⟨_, o, ho, _⟩ := I.ok.funs.mem hb
    exact I.base.free b o ho (I.ok.frf b hb) fun z => I.ok.exfs b z hb

/-- THE STEP: the untracked objects but the frame and the records at ch are kept (the callers' frames up to slots), the frame's map is kept, the new abstract heap is held -/
theorem Inv.step {g' : Array GenState} {t' : Nat} {d' : Drawn} {ch : List Addr} (I : Inv X pins σ H s)
    (hch : ∀ b ∈ ch, (b ∈ X.ex ∨ X.s₀.heap.objs.size ≤ b) ∧ b ≠ X.env.locals ∧ (∀ x c, X.env.cells.lookup x = some c → c ≠ b) ∧ ∀ p ∈ X.pn ++ pins, p.1 ≠ b)
    (keep : ∀ b o, b ≠ X.env.locals → b ∉ X.fs → b ∉ ch → s.heap.get? b = some o → H b = none → h'.get? b = some o)
    (slot : ∀ b o, b ≠ X.env.locals → b ∈ X.fs → b ∉ ch → s.heap.get? b = some o → H b = none → ∃ sl, h'.get? b = some { o with slots := sl }) (free : ∀ b o, b ∉ ch → s.heap.get? b = some o → H b = none → H' b = none)
    (there : ∀ b o, b ∉ ch → s.heap.get? b = some o → ∃ o', h'.get? b = some o')
    (tups : ∀ b xs, H b = some (.tup xs) → H' b = some (.tup xs)) (frzs : ∀ b o u, H b = some (.frz o u) → H' b = some (.frz o u)) (tbls : ∀ b ps, H b = some (.tbl ps) → ∃ more, H' b = some (.tbl (ps ++ more)))
    (ns : ∀ m, s.heap.Ns X.env.locals m → h'.Ns X.env.locals m) (hok : HOk X.prog X.w H' h') (hg : AllBare g') :
    Inv X pins σ H' { s with heap := h', gens := g', drawn := d', toks := t' } := by
  have neL : ∀ b o, X.s₀.heap.get? b = some o → b ≠ X.env.locals := fun b o e => Nat.ne_of_lt (Nat.lt_of_lt_of_le (Heap.lt_size e) I.ok.above)
  have neC : ∀ b o, X.s₀.heap.get? b = some o → b ∉ X.ex → b ∉ ch := fun b o e hx hb => by
    rcases (hch b hb).1 with z | z
    · exact hx z
    · exact absurd (Nat.lt_of_lt_of_le (Heap.lt_size e) z) (Nat.lt_irrefl _)
  have cellK : ∀ x c, X.env.cells.lookup x = some c → ∀ v, s.heap.IsCell c v → h'.IsCell c v := fun x c e v ⟨o, ho, hd⟩ => by
    have nch : c ∉ ch := fun z => (hch c z).2.2.1 x c e rfl
    by_cases hc : c ∈ X.fs
    · obtain ⟨sl, q⟩ := slot c o (I.cne x c e) hc nch ho (I.freeC x c e)
      exact ⟨_, q, hd⟩
    · exact ⟨o, keep c o (I.cne x c e) hc nch ho (I.freeC x c e), hd⟩
  refine ⟨I.ok, I.os, hg, ⟨fun b o e n hb hx => ?_, fun b o e n hb hx => ?_, fun b o e n hx => ?_, fun b o e hx => ?_, fun b xs e => tups b xs (I.base.tups b xs e), fun b o xs e => frzs b o xs (I.base.frzs b o xs e), fun b ps e => ?_⟩, ?_, fun x c e => ?_, ?_, fun x c e => ?_, fun p hp => ?_, hok, I.len⟩
  · exact keep b o (neL b o e) hb (neC b o e hx) (I.base.keep b o e n hb hx) (I.base.free b o e n hx)
  · obtain ⟨sl, e1⟩ := I.base.slot b o e n hb hx
    obtain ⟨sl', e2⟩ := slot b _ (neL b o e) hb (neC b o e hx) e1 (I.base.free b o e n hx)
    exact ⟨sl', e2⟩
  · obtain ⟨o', e1⟩ := I.base.there b o e hx
    exact free b o' (neC b o e hx) e1 (I.base.free b o e n hx)
  · obtain ⟨o', e1⟩ := I.base.there b o e hx
    exact there b o' (neC b o e hx) e1
  · obtain ⟨m1, e1⟩ := I.base.tbls b ps e
    obtain ⟨m2, e2⟩ := tbls b _ e1
    exact ⟨m1 ++ m2, by rw [e2, Array.append_assoc]⟩
  · obtain ⟨m, hn, hl⟩ := I.loc
    refine ⟨m, ns m hn, fun i x v e1 e2 e3 => ?_⟩
    obtain ⟨u, r, l⟩ := hl i x v e1 e2 e3
    refine ⟨u, r, ?_⟩
    rcases l with l | ⟨k, c, e, z⟩
    · exact .inl l
    · exact .inr ⟨k, c, e, cellK x c e _ z⟩
  · obtain ⟨v, z⟩ := I.cell x c e
    exact ⟨v, cellK x c e v z⟩
  · obtain ⟨m, ⟨o, _, _, ho, _⟩, _⟩ := I.loc
    exact free _ o (fun z => (hch _ z).2.1 rfl) ho I.free
  · obtain ⟨v, o, ho, hd⟩ := I.cell x c e
    exact free c o (fun z => (hch c z).2.2.1 x c e rfl) ho (I.freeC x c e)
  · obtain ⟨e, n, ne, nf, d⟩ := I.pin p hp
    have nch : p.1 ∉ ch := fun z => (hch p.1 z).2.2.2 p hp rfl
    exact ⟨keep p.1 p.2 ne nf nch e n, free p.1 p.2 nch e n, ne, nf, d⟩
/-- .. where the frame's own object is kept too -/
theorem Inv.un {t' : Nat} (I : Inv X pins σ H s) (u : Un X.fs [] H H' s.heap h') (hok : HOk X.prog X.w H' h') : Inv X pins σ H' { s with heap := h', toks := t' } := by
  obtain ⟨m, ⟨o, es, ep, ho, r⟩, _⟩ := id I.loc
  obtain ⟨sl, hL⟩ := u.any ho I.free (by simp)
  exact I.step (g' := s.gens) (d' := s.drawn) (ch := []) (fun _ z => nomatch z) (fun b o _ hb _ e n => u.keep b o e n hb (by simp)) (fun b o _ hb _ e n => u.slot b o e n hb (by simp)) (fun b o _ e n => u.free b o e n (by simp)) (fun b o _ e => u.there b o e (by simp)) u.tups u.frzs u.tbls (fun m' hm => by
    obtain ⟨o', es', ep', ho', r'⟩ := hm
    rw [ho] at ho'; cases ho'
    exact ⟨_, es', ep', hL, r'⟩) hok I.bare
/-- behind a call (or a comprehension's block): the slots of this frame may have changed too, the records at ch may have turned -/
theorem Inv.call {g' : Array GenState} {t' : Nat} {d' : Drawn} {ch : List Addr} (I : Inv X pins σ H s) (u : Un (frs X.stack) ch H H' s.heap h') (hok : HOk X.prog X.w H' h') (hg : AllBare g')
    (hch : ∀ b ∈ ch, (b ∈ X.ex ∨ X.s₀.heap.objs.size ≤ b) ∧ b ≠ X.env.locals ∧ (∀ x c, X.env.cells.lookup x = some c → c ≠ b) ∧ ∀ p ∈ X.pn ++ pins, p.1 ≠ b) :
    Inv X pins σ H' { s with heap := h', gens := g', drawn := d', toks := t' } := by
  obtain ⟨m, ⟨o, es, ep, ho, r⟩, _⟩ := id I.loc
  obtain ⟨sl, hL⟩ := u.any ho I.free fun z => (hch _ z).2.1 rfl
  exact I.step (ch := ch) hch (fun b o hL hb hc e n => u.keep b o e n (fun z => (List.mem_cons.mp (I.stkSub b z)).elim hL hb) hc) (fun b o _ _ hc e n => u.any e n hc) (fun b o hc e n => u.free b o e n hc) (fun b o hc e => u.there b o e hc) u.tups u.frzs u.tbls (fun m' hm => by
    obtain ⟨o', es', ep', ho', r'⟩ := hm
    rw [ho] at ho'; cases ho'
    exact ⟨_, es', ep', hL, r'⟩) hok hg
/-- an untracked record of ours (an iterator) has turned -/
theorem Inv.turned {t' : Nat} {it : Addr} (I : Inv X pins σ H s) (k : ∀ b o, b ≠ it → s.heap.get? b = some o → h'.get? b = some o) (hn : H it = none) (hL : it ≠ X.env.locals)
    (h1 : it ∈ X.ex ∨ X.s₀.heap.objs.size ≤ it) (h2 : ∀ x c, X.env.cells.lookup x = some c → c ≠ it) (h3 : ∀ p ∈ X.pn ++ pins, p.1 ≠ it) : Inv X pins σ H { s with heap := h', toks := t' } := by
  have nit : ∀ b u, H b = some u → b ≠ it := fun b u e z => by rw [z, hn] at e; cases e
  refine I.step (g' := s.gens) (d' := s.drawn) (ch := [it]) (fun b hb => ?_) (fun b o _ _ hc e _ => k b o (fun z => hc (by simp [z])) e) (fun b o _ _ hc e _ => ⟨o.slots, k b o (fun z => hc (by simp [z])) e⟩) (fun _ _ _ _ n => n)
    (fun b o hc e => ⟨o, k b o (fun z => hc (by simp [z])) e⟩) (fun _ _ e => e) (fun _ _ _ e => e) (fun b ps e => ⟨#[], by rw [e]; simp⟩) (fun m hm => ?_) (fun b u e => ?_) I.bare
  · have e : b = it := by simpa using hb
    subst e
    exact ⟨h1, hL, h2, h3⟩
  · obtain ⟨o, es, ep, ho, r⟩ := hm
    exact ⟨o, es, ep, k _ o (Ne.symm hL) ho, r⟩
  · refine (I.hok b u e).stay (fun c v hc q => k c v ?_ q) (fun _ q => q) fun _ _ q => q
    rcases hc with z | z
    · rw [z]; exact nit b u e
    · exact nit c _ z
theorem Inv.tok (I : Inv X pins σ H s) (t : Nat) : Inv X pins σ H { s with toks := t } := I.un (h' := s.heap) (t' := t) Un.refl I.hok
/-- all objects kept -/
theorem Inv.kept {t' : Nat} (I : Inv X pins σ H s) (k : ∀ b u, s.heap.get? b = some u → h'.get? b = some u) : Inv X pins σ H { s with heap := h', toks := t' } := I.un (Un.kept k) (I.hok.kept k)
/-- a new object laid and tracked -/
theorem Inv.laid {a : Addr} {o : HO} {t' : Nat} (I : Inv X pins σ H s) (k : ∀ b u, s.heap.get? b = some u → h'.get? b = some u) (hp : s.heap.objs.size ≤ a) (new : ObjOk X.prog X.w (upd H a o) h' a o) :
    Inv X pins σ (upd H a o) { s with heap := h', toks := t' } := I.un (Un.laid k hp (I.hok.fresh hp)) (I.hok.laid k hp new)
/-- an object written -/
theorem Inv.write {x e : Addr} {o : HO} {t' : Nat} (I : Inv X pins σ H s) (mu : Mut (H x)) (he : e = x ∨ H e = some (.own x)) (k : ∀ b u, b ≠ e → s.heap.get? b = some u → h'.get? b = some u) (heo : ∃ u, h'.get? e = some u)
    (new : ObjOk X.prog X.w (upd H x o) h' x o) : Inv X pins σ (upd H x o) { s with heap := h', toks := t' } := I.un (Un.write mu he k heo) (I.hok.write mu he k heo new)
/-- forgetting slots, pins -/
theorem Inv.weak {σ' : List (Option V)} (I : Inv X pins σ H s) (hl : σ'.length = σ.length) (w : ∀ (i : Nat) v, σ'[i]? = some (some v) → σ[i]? = some (some v)) : Inv X pins σ' H s :=
  ⟨I.ok, I.os, I.bare, I.base, let ⟨m, hn, hl'⟩ := I.loc; ⟨m, hn, fun i x v e1 e2 e3 => hl' i x v e1 (w i v e2) e3⟩, I.cell, I.free, I.freeC, I.pin, I.hok, hl.trans I.len⟩
theorem Inv.pins_of {pins' : List (Addr × Obj)} (I : Inv X pins σ H s) (h : ∀ p ∈ pins', s.heap.get? p.1 = some p.2 ∧ H p.1 = none ∧ p.1 ≠ X.env.locals ∧ p.1 ∉ X.fs ∧ ∀ v, p.2.data ≠ .cell v) : Inv X pins' σ H s :=
  ⟨I.ok, I.os, I.bare, I.base, I.loc, I.cell, I.free, I.freeC, fun p hp => (List.mem_append.mp hp).elim (fun z => I.pin p (List.mem_append_left _ z)) (h p), I.hok, I.len⟩

theorem nodup_ix {N : List Str} (hN : N.Nodup) {i j : Nat} {x : Str} (a : N[i]? = some x) (b : N[j]? = some x) : i = j := by
  obtain ⟨h1, e1⟩ := List.getElem?_eq_some_iff.mp a
  obtain ⟨h2, e2⟩ := List.getElem?_eq_some_iff.mp b
  exact (List.getElem_inj hN).mp (e1.trans e2.symm)

/-- a name is stored; what changed -/
theorem store_ok2 {M : Model} {A : Around} {E : Value → Shared → Prop} {i : Nat} {x : Str} {v : V} {u : Value} {Q : Unit → Shared → Prop} (I : Inv X pins σ H s) (hN : X.N.Nodup) (hi : X.N[i]? = some x) (hx : Loc X.env.scope x) (r : RelV v u)
    (h : ∀ s', Inv X pins (σ.set i (some v)) H s' → (∃ a, Heap.SameBut a s.heap s'.heap ∧ (a = X.env.locals ∨ X.env.cells.lookup x = some a)) → Q () s') (hf : X.fn x = true ∨ X.env.scope.names.lookup x = some .local := by first | exact .inl rfl | exact .inr rfl | assumption) : wpAny M A (storeName X.env x u) Q E s := by
  obtain ⟨m, hn, hl⟩ := id I.loc
  have hcls : (X.env.scope.kind == .class || (X.env.scope.kind == .module && X.env.locals != X.env.globals)) = false := by rw [I.ok.kind]; rfl
  have hiσ : i < σ.length := by rw [I.len]; exact (List.getElem?_eq_some_iff.mp hi).1
  have cne := I.cne
  have tracked : ∀ {a : Addr} {h' : Heap}, (∃ o, s.heap.get? a = some o ∧ H a = none) → Heap.SameBut a s.heap h' → HOk X.prog X.w H h' := fun {a h'} ha hs b ob e => by
    obtain ⟨_, _, hfree⟩ := ha
    refine (I.hok b ob e).stay (fun c w' hc q => (hs.2 c ?_).trans q) (fun _ q => q) fun _ _ q => q
    rintro rfl
    rcases hc with rfl | hc
    · rw [hfree] at e; cases e
    · rw [hfree] at hc; cases hc
  rcases hx with hk | hk
  · refine wpAny_storeName_local hk hn (fun h' hn' hs => ?_) hcls
    obtain ⟨oL, _, _, hoL, _⟩ := id hn
    refine h _ ⟨I.ok, I.os, I.bare, ⟨fun b o e n hb hx => ?_, fun b o e n hb hx => ?_, I.base.free, fun b o e hx => ?_, I.base.tups, I.base.frzs, I.base.tbls⟩, ⟨_, hn', fun j y v' e1 e2 e3 => ?_⟩, fun y c e => ?_, I.free, I.freeC, fun p hp => ?_, tracked ⟨oL, hoL, I.free⟩ hs, by simpa using I.len⟩ ⟨_, hs, .inl rfl⟩
    · exact (hs.2 b (Nat.ne_of_lt (Nat.lt_of_lt_of_le (Heap.lt_size e) I.ok.above))).trans (I.base.keep b o e n hb hx)
    · obtain ⟨sl, e1⟩ := I.base.slot b o e n hb hx
      exact ⟨sl, (hs.2 b (Nat.ne_of_lt (Nat.lt_of_lt_of_le (Heap.lt_size e) I.ok.above))).trans e1⟩
    · obtain ⟨o', e1⟩ := I.base.there b o e hx
      exact ⟨o', (hs.2 b (Nat.ne_of_lt (Nat.lt_of_lt_of_le (Heap.lt_size e) I.ok.above))).trans e1⟩
    · by_cases hj : j = i
      · subst hj
        rw [hi] at e1; cases e1
        rw [List.getElem?_set_self hiσ] at e2
        cases e2
        exact ⟨u, r, .inl ⟨hk, by simp⟩⟩
      · rw [List.getElem?_set_ne (Ne.symm hj)] at e2
        obtain ⟨u', r', q⟩ := hl j y v' e1 e2 e3
        refine ⟨u', r', ?_⟩
        rcases q with ⟨k, e⟩ | ⟨k, c, e, z⟩
        · refine .inl ⟨k, ?_⟩
          have : y ≠ x := fun e => hj (nodup_ix hN e1 (e ▸ hi))
          simp [this, e]
        · exact .inr ⟨k, c, e, z.sameBut hs (cne y c e)⟩
    · obtain ⟨w', z⟩ := I.cell y c e
      exact ⟨w', z.sameBut hs (cne y c e)⟩
    · obtain ⟨e, n, ne, nf, d⟩ := I.pin p hp
      exact ⟨(hs.2 p.1 ne).trans e, n, ne, nf, d⟩
  · have hfn : X.fn x = true := by
      rcases hf with z | z
      · exact z
      · rw [z] at hk; cases hk
    obtain ⟨c, hc⟩ := I.ok.has x (.inl hk)
    obtain ⟨w', z⟩ := I.cell x c hc
    refine wpAny_storeName_cell I.ok.kind hk hc z (fun h' hc' hs => ?_)
    obtain ⟨oc, hoc, hocd⟩ := id z
    refine h { s with heap := h' } ⟨I.ok, I.os, I.bare, ⟨fun b o e n hb hx => ?_, fun b o e n hb hx => ?_, I.base.free, fun b o e hx => ?_, I.base.tups, I.base.frzs, I.base.tbls⟩, ⟨m, hn.sameBut hs (Ne.symm (cne x c hc)), fun j y v' e1 e2 e3 => ?_⟩, fun y c' e => ?_, I.free, I.freeC, fun p hp => ?_, tracked ⟨oc, hoc, I.freeC x c hc⟩ hs, by simpa using I.len⟩ ⟨c, hs, .inr hc⟩
    · exact (hs.2 b (Nat.ne_of_lt (Nat.lt_of_lt_of_le (Heap.lt_size e) (I.ok.cab x c hfn hc)))).trans (I.base.keep b o e n hb hx)
    · obtain ⟨sl, e1⟩ := I.base.slot b o e n hb hx
      exact ⟨sl, (hs.2 b (Nat.ne_of_lt (Nat.lt_of_lt_of_le (Heap.lt_size e) (I.ok.cab x c hfn hc)))).trans e1⟩
    · obtain ⟨o', e1⟩ := I.base.there b o e hx
      exact ⟨o', (hs.2 b (Nat.ne_of_lt (Nat.lt_of_lt_of_le (Heap.lt_size e) (I.ok.cab x c hfn hc)))).trans e1⟩
    · by_cases hj : j = i
      · subst hj
        rw [hi] at e1; cases e1
        rw [List.getElem?_set_self hiσ] at e2
        cases e2
        exact ⟨u, r, .inr ⟨.inl hk, c, hc, hc'⟩⟩
      · rw [List.getElem?_set_ne (Ne.symm hj)] at e2
        obtain ⟨u', r', q⟩ := hl j y v' e1 e2 e3
        refine ⟨u', r', ?_⟩
        rcases q with q | ⟨k, c', e, z'⟩
        · exact .inl q
        · refine .inr ⟨k, c', e, z'.sameBut hs ?_⟩
          rintro rfl
          exact hj (nodup_ix hN e1 (I.ok.inj _ _ _ e hc ▸ hi))
    · by_cases hcc : c' = c
      · subst hcc; exact ⟨_, hc'⟩
      · obtain ⟨w2, z2⟩ := I.cell y c' e
        exact ⟨w2, z2.sameBut hs hcc⟩
    · obtain ⟨e, n, ne, nf, d⟩ := I.pin p hp
      refine ⟨(hs.2 p.1 ?_).trans e, n, ne, nf, d⟩
      intro q
      rw [q, hoc] at e
      have q' : oc = p.2 := Option.some.inj e
      exact d w' (by rw [← q']; exact hocd)
theorem store_ok {M : Model} {A : Around} {E : Value → Shared → Prop} {i : Nat} {x : Str} {v : V} {u : Value} {Q : Unit → Shared → Prop} (I : Inv X pins σ H s) (hN : X.N.Nodup) (hi : X.N[i]? = some x) (hx : Loc X.env.scope x) (r : RelV v u)
    (h : ∀ s', Inv X pins (σ.set i (some v)) H s' → Q () s') (hf : X.fn x = true ∨ X.env.scope.names.lookup x = some .local := by first | exact .inl rfl | exact .inr rfl | assumption) : wpAny M A (storeName X.env x u) Q E s :=
  store_ok2 I hN hi hx r (fun s' I' _ => h s' I') hf
/-- behind a call or a block, the state as it is -/
theorem Inv.call' {s' : Shared} {ch : List Addr} (I : Inv X pins σ H s) (ho : s'.os = s.os) (u : Un (frs X.stack) ch H H' s.heap s'.heap) (hok : HOk X.prog X.w H' s'.heap) (hg : AllBare s'.gens)
    (hch : ∀ b ∈ ch, (b ∈ X.ex ∨ X.s₀.heap.objs.size ≤ b) ∧ b ≠ X.env.locals ∧ (∀ x c, X.env.cells.lookup x = some c → c ≠ b) ∧ ∀ p ∈ X.pn ++ pins, p.1 ≠ b) : Inv X pins σ H' s' := by
  obtain ⟨h', g', d', t', o'⟩ := s'
  have e : o' = s.os := ho
  subst e
  exact I.call (g' := g') (t' := t') (d' := d') u hok hg hch
end

/-! ### the judgements -/
/-- an exception: its class, its own dict's address (where it has one), the abstract heap behind it -/
abbrev XK := Value → Option Addr → Hp → Prop
abbrev St := List (Option V)
abbrev VK := V → Hp → Prop
/-- an expression's reading; a test's; an argument list's -/
abbrev TE := St → Hp → VK → Prop
abbrev TT := St → Hp → (Bool → Hp → Prop) → Prop
abbrev TA := St → Hp → (List V → Hp → Prop) → Prop
/-- what is wanted behind a statement -/
structure Ends where
  nx : St → Hp → Prop
  rt : VK
  bk : St → Hp → Prop := fun _ _ => False
  ct : St → Hp → Prop := fun _ _ => False
abbrev TS := Ends → St → Hp → Prop

def EP (X : Cx) (pins : List (Addr × Obj)) (σ : St) (Q : VK) (u : Value) (s' : Shared) : Prop := ∃ v H', Inv X pins σ H' s' ∧ RelV v u ∧ Q v H'
def TP (X : Cx) (pins : List (Addr × Obj)) (σ : St) (Q : Bool → Hp → Prop) (b : Bool) (s' : Shared) : Prop := ∃ H', Inv X pins σ H' s' ∧ Q b H'
def AP (X : Cx) (pins : List (Addr × Obj)) (σ : St) (Q : List V → Hp → Prop) (us : List Value) (s' : Shared) : Prop := ∃ vs H', Inv X pins σ H' s' ∧ Vals vs us ∧ Q vs H'
def SP (X : Cx) (pins : List (Addr × Obj)) (D : Ends) (f : Flow) (s' : Shared) : Prop :=
  match f with
  | .next => ∃ σ' H', Inv X pins σ' H' s' ∧ D.nx σ' H'
  | .brk => ∃ σ' H', Inv X pins σ' H' s' ∧ D.bk σ' H'
  | .cont => ∃ σ' H', Inv X pins σ' H' s' ∧ D.ct σ' H'
  | .ret u => ∃ v σ' H', Inv X pins σ' H' s' ∧ RelV v u ∧ D.rt v H'

def PE (X : Cx) (e : Expr) (t : TE) : Prop :=
  ∀ (pins : List (Addr × Obj)) (s : Shared) (σ : St) (H : Hp) (Q : VK), Inv X pins σ H s → t σ H Q → wpAny (model X.prog X.w) X.A (eval e X.env) (EP X pins σ Q) X.xe s
def PT (X : Cx) (e : Expr) (t : TT) : Prop :=
  ∀ (pins : List (Addr × Obj)) (s : Shared) (σ : St) (H : Hp) (Q : Bool → Hp → Prop), Inv X pins σ H s → t σ H Q → wpAny (model X.prog X.w) X.A (isTrue e X.env (eval e X.env)) (TP X pins σ Q) X.xe s
/-- a test whatever its 'whole' is (and, or) -/
def PW (X : Cx) (e : Expr) (t : TT) : Prop :=
  ∀ (whole : Sem Value) (pins : List (Addr × Obj)) (s : Shared) (σ : St) (H : Hp) (Q : Bool → Hp → Prop), Inv X pins σ H s → t σ H Q → wpAny (model X.prog X.w) X.A (isTrue e X.env whole) (TP X pins σ Q) X.xe s
theorem PW.pt {X : Cx} {e : Expr} {t : TT} (h : PW X e t) : PT X e t := h _
/-- an argument list (no star), from the left -/
def PA (X : Cx) (es : List Expr) (t : TA) : Prop :=
  ∀ (pos : Pos) (pins : List (Addr × Obj)) (s : Shared) (σ : St) (H : Hp) (Q : List V → Hp → Prop), Inv X pins σ H s → t σ H Q → wpAny (model X.prog X.w) X.A (spliced (backTo pos (starEach es X.env))) (AP X pins σ Q) X.xe s
def PS (X : Cx) (st : Stmt) (t : TS) : Prop :=
  ∀ (pins : List (Addr × Obj)) (s : Shared) (σ : St) (H : Hp) (D : Ends), Inv X pins σ H s → t D σ H → wpAny (model X.prog X.w) X.A (exec st X.env) (SP X pins D) X.xe s
def PSs (X : Cx) (st : List Stmt) (t : TS) : Prop :=
  ∀ (pins : List (Addr × Obj)) (s : Shared) (σ : St) (H : Hp) (D : Ends), Inv X pins σ H s → t D σ H → wpAny (model X.prog X.w) X.A (execs st X.env) (SP X pins D) X.xe s
/-- weaken the end -/
theorem thn {α : Type} {t : Sem α} {Q Q' : α → Shared → Prop} {M : Model} {A : Around} {E : Value → Shared → Prop} {s : Shared} (h : wpAny M A t Q E s) (hQ : ∀ a s, Q a s → Q' a s) : wpAny M A t Q' E s := wpAny_mono h hQ fun _ _ x => x
end L2

namespace L2
open PySem PySem.Spec PyProof.Rows
section
variable {X : Cx}

/-- two expressions in a row -/
theorem bin {a b : Expr} {ta tb : TE} (ha : PE X a ta) (hb : PE X b tb) {pins : List (Addr × Obj)} {s : Shared} {σ : St} {H : Hp} {R : V → V → Hp → Prop} (I : Inv X pins σ H s) (h : ta σ H fun x H1 => tb σ H1 fun y H2 => R x y H2)
    {α : Type} {Q : α → Shared → Prop} {f : Value → Value → Sem α}
    (hf : ∀ v u s2 x y H2, Inv X pins σ H2 s2 → RelV x v → RelV y u → R x y H2 → wpAny (model X.prog X.w) X.A (f v u) Q X.xe s2) :
    wpAny (model X.prog X.w) X.A (eval a X.env) (fun v s₁ => wpAny (model X.prog X.w) X.A (eval b X.env) (fun u s₂ => wpAny (model X.prog X.w) X.A (f v u) Q X.xe s₂) X.xe s₁) X.xe s := by
  refine thn (ha pins s σ H _ I h) fun v s1 ⟨x, H1, I1, r1, q1⟩ => ?_
  refine thn (hb pins s1 σ H1 _ I1 q1) fun u s2 ⟨y, H2, I2, r2, q2⟩ => ?_
  exact hf v u s2 x y H2 I2 r1 r2 q2

/-! ### names and constants -/
def tVar (i : Nat) : TE := fun σ H Q => ∃ v, σ[i]? = some (some v) ∧ Q v H
def tC (v : V) : TE := fun _ H Q => Q v H
theorem pe_var {i : Nat} {x : Str} {pos : Pos} (hN : X.N[i]? = some x) (hv : Vis X.env.scope x) (hd : (x == ("__debug__" : Str)) = false := by decide) (hcd : (x == ("__classdict__" : Str)) = false := by decide) : PE X (.Name x pos) (tVar i) := by
  intro pins s σ H Q I h
  obtain ⟨v, e, h⟩ := h
  obtain ⟨m, hn, hl⟩ := I.loc
  obtain ⟨u, r, l⟩ := hl i x v hN e hv
  have fin : EP X pins σ Q u s := ⟨v, H, I, r, h⟩
  rcases l with ⟨hk, hm⟩ | ⟨hk, c, hc, hcell⟩
  · exact wpAny_Name (wpAny_loadName_local I.ok.kind hk hn hm fin) hd
  · rcases hk with hk | hk
    · exact wpAny_Name (wpAny_loadName_cell I.ok.kind hk hc hcell fin) hd
    · exact wpAny_Name (wpAny_loadName_free I.ok.kind hk hc hcell fin hcd) hd
theorem pe_int {i j pos} : PE X (.Constant (.int i) j pos) (tC (.int i)) := fun _ _ _ H _ I h => wpAny_Constant_int ⟨.int i, H, I.tok _, ⟨_, rfl⟩, h⟩
theorem pe_bl {b j pos} : PE X (.Constant (.bool b) j pos) (tC (.bl b)) := fun _ _ _ H _ I h => Constant_bool ⟨.bl b, H, I, rfl, h⟩
theorem pe_str {x j pos} : PE X (.Constant (.str x) j pos) (tC (.str x)) := fun _ _ _ H _ I h => Calls.Constant_str ⟨.str x, H, I.tok _, ⟨_, rfl⟩, h⟩

/-- a global name of the def -/
def Gl (X : Cx) (x : Str) : Prop := X.env.kindOf x = some .globalImplicit
theorem ld_glob {E : Value → Shared → Prop} {pins : List (Addr × Obj)} {s : Shared} {σ : St} {H : Hp} {x : Str} {u : Value} {pos : Pos} {Q : Value → Shared → Prop} (I : Inv X pins σ H s) (hg : Gl X x) (hm : X.mg x = some u) (h : Q u s)
    (hd : (x == ("__debug__" : Str)) = false := by decide) : wpAny (model X.prog X.w) X.A (eval (.Name x pos) X.env) Q E s :=
  Calls.Name_function_global I.ok.kind hg (Calls.loadGlobal_global (by rw [I.ok.glob]; exact I.mod.glob.keeps I.bk) hm h) hd
theorem ld_blt {E : Value → Shared → Prop} {pins : List (Addr × Obj)} {s : Shared} {σ : St} {H : Hp} {x : Str} {u : Value} {pos : Pos} {Q : Value → Shared → Prop} (I : Inv X pins σ H s) (hg : Gl X x) (hm : X.mg x = none) (hv : bootBuiltins x = some u) (h : Q u s)
    (hn : x ≠ "__name__" := by decide) (hd : (x == ("__debug__" : Str)) = false := by decide) : wpAny (model X.prog X.w) X.A (eval (.Name x pos) X.env) Q E s := by
  obtain ⟨mb, h1, h2⟩ := I.mod.blt
  exact Calls.Name_function_global I.ok.kind hg (Calls.loadGlobal_builtin (by rw [I.ok.glob]; exact I.mod.glob.keeps I.bk) hm (by rw [I.ok.blt]; exact h1.keeps I.bk) ((h2 x hn).trans hv) h) hd
theorem pe_bltn {x : Str} {v : V} {u : Value} {pos : Pos} (hg : Gl X x) (hm : X.mg x = none) (hv : bootBuiltins x = some u) (r : RelV v u) (hn : x ≠ "__name__" := by decide) (hd : (x == ("__debug__" : Str)) = false := by decide) : PE X (.Name x pos) (tC v) :=
  fun _ _ _ H _ I h => ld_blt I hg hm hv ⟨v, H, I, r, h⟩ hn hd

/-! ### arithmetic -/
/-- two ints -/
def t2I (ta tb : TE) (k : Int → Int → Hp → Prop) : St → Hp → Prop := fun σ H => ta σ H fun x H1 => tb σ H1 fun y H2 => ∃ i j, x = .int i ∧ y = .int j ∧ k i j H2
def tAdd (ta tb : TE) : TE := fun σ H Q => t2I ta tb (fun i j H2 => Q (.int (i + j)) H2) σ H
def tSub (ta tb : TE) : TE := fun σ H Q => t2I ta tb (fun i j H2 => Q (.int (i - j)) H2) σ H
/-- the left factor below 2^64 -/
def tMul (ta tb : TE) : TE := fun σ H Q => t2I ta tb (fun i j H2 => (-(2 ^ 64) < i ∧ i < 2 ^ 64) ∧ Q (.int (i * j)) H2) σ H
variable {a b : Expr} {ta tb : TE} {pos : Pos}
/-! ### comparisons -/
def PC (X : Cx) (op : CmpOp) (a b : Expr) (t : TE) : Prop :=
  ∀ (pins : List (Addr × Obj)) (s : Shared) (σ : St) (H : Hp) (Q : VK), Inv X pins σ H s → t σ H Q →
    wpAny (model X.prog X.w) X.A (eval a X.env) (fun v s₁ => wpAny (model X.prog X.w) X.A (eval b X.env) (fun u s₂ => wpAny (model X.prog X.w) X.A (compareOp op v u) (EP X pins σ Q) X.xe s₂) X.xe s₁) X.xe s
def tCmp (p : Int → Int → Bool) (ta tb : TE) : TE := fun σ H Q => t2I ta tb (fun i j H2 => Q (.bl (p i j)) H2) σ H
abbrev tLt : TE → TE → TE := tCmp fun i j => decide (i < j)
abbrev tLe : TE → TE → TE := tCmp fun i j => decide (i ≤ j)
abbrev tGt : TE → TE → TE := tCmp fun i j => decide (j < i)
abbrev tGe : TE → TE → TE := tCmp fun i j => decide (j ≤ i)
abbrev tEqI : TE → TE → TE := tCmp fun i j => decide (i = j)
abbrev tNeI : TE → TE → TE := tCmp fun i j => !decide (i = j)
/-- is None -/
def tIsN (ta : TE) : TE := fun σ H Q => ta σ H fun x H1 => Q (.bl (decide (x = .non))) H1
def tNotN (ta : TE) : TE := fun σ H Q => ta σ H fun x H1 => Q (.bl (!decide (x = .non))) H1
/-- a comparison as a value, as a test -/
def tB (t : TE) : TT := fun σ H Q => t σ H fun x H1 => ∃ c, x = .bl c ∧ Q c H1
theorem pt_cmp {op : CmpOp} {t : TE} (h : PC X op a b t) (h1 : behindInMarks op b = false := by first | exact nobehind _ (by decide) (by decide) | rfl) : PT X (.Compare a [op] [b] pos) (tB t) := by
  intro pins s σ H Q I hw
  refine wpAny_isTrue_Compare1 (thn (h pins s σ H _ I hw) fun v s1 h1 => thn h1 fun u s2 h2 => thn h2 fun c s3 ⟨x, H1, I1, r1, q1⟩ => ?_) h1
  obtain ⟨d, rfl, q⟩ := q1
  cases r1
  exact wpAny_truthy_bool ⟨H1, I1, q⟩
/-- an expression whose value is a bool, as a test -/
theorem pt_val {e : Expr} {t : TE} (h : PE X e t) (he : ∀ whole, isTrue e X.env whole = (do let v ← whole; standAt e.pos; holding [v] (truthy v)) := by intro _; rfl) : PT X e (tB t) := by
  intro pins s σ H Q I hw
  refine isTrue_plain (thn (h pins s σ H _ I hw) fun v s1 ⟨x, H1, I1, r1, q1⟩ => ?_) (he _)
  obtain ⟨d, rfl, q⟩ := q1
  cases r1
  exact wpAny_truthy_bool ⟨H1, I1, q⟩

/-! ### and, or, not -/
variable {tA tB' : TT} {rest : List Expr}
def tAnd (t u : TT) : TT := fun σ H Q => t σ H fun c H1 => if c = true then u σ H1 Q else Q false H1
def tOr (t u : TT) : TT := fun σ H Q => t σ H fun c H1 => if c = true then Q true H1 else u σ H1 Q
def tNot (t : TT) : TT := fun σ H Q => t σ H fun c H1 => Q (!c) H1
theorem pw_and1 (ha : PT X a tA) : PW X (.BoolOp .And [a] pos) tA := by
  intro wh pins s σ H Q I h
  refine isTrue_and (thn (ha pins s σ H Q I h) fun c s1 e => ?_)
  cases c with
  | true => exact isTrue_and_nil e
  | false => exact e
theorem pw_or1 (ha : PT X a tA) : PW X (.BoolOp .Or [a] pos) tA := by
  intro wh pins s σ H Q I h
  refine isTrue_or (thn (ha pins s σ H Q I h) fun c s1 e => ?_)
  cases c with
  | false => exact isTrue_or_nil e
  | true => exact e
theorem pw_and (ha : PT X a tA) (hb : PW X (.BoolOp .And (b :: rest) pos) tB') : PW X (.BoolOp .And (a :: b :: rest) pos) (tAnd tA tB') := by
  intro wh pins s σ H Q I h
  refine isTrue_and (thn (ha pins s σ H _ I h) fun c s1 ⟨H1, I1, q1⟩ => ?_)
  cases c with
  | true => exact hb wh pins s1 σ H1 Q I1 q1
  | false => exact ⟨H1, I1, q1⟩
theorem pw_or (ha : PT X a tA) (hb : PW X (.BoolOp .Or (b :: rest) pos) tB') : PW X (.BoolOp .Or (a :: b :: rest) pos) (tOr tA tB') := by
  intro wh pins s σ H Q I h
  refine isTrue_or (thn (ha pins s σ H _ I h) fun c s1 ⟨H1, I1, q1⟩ => ?_)
  cases c with
  | true => exact ⟨H1, I1, q1⟩
  | false => exact hb wh pins s1 σ H1 Q I1 q1
theorem pt_not (ha : PT X a tA) : PT X (.UnaryOp .Not a pos) (tNot tA) := by
  intro pins s σ H Q I h
  exact isTrue_not (ha pins s σ H (fun c H1 => Q (!c) H1) I h)
/-- .. as values (bools) -/
def tAndV (ta tb : TE) : TE := fun σ H Q => ta σ H fun x H1 => ∃ c, x = .bl c ∧ if c = true then tb σ H1 Q else Q (.bl false) H1
def tOrV (ta tb : TE) : TE := fun σ H Q => ta σ H fun x H1 => ∃ c, x = .bl c ∧ if c = true then Q (.bl true) H1 else tb σ H1 Q
def tNotV (ta : TE) : TE := fun σ H Q => ta σ H fun x H1 => ∃ c, x = .bl c ∧ Q (.bl (!c)) H1
theorem pe_one {op} {t : TE} (h : PE X a t) : PE X (.BoolOp op [a] pos) t := fun pins s σ H Q I hw => BoolOp_one (h pins s σ H Q I hw)
theorem pe_and (ha : PE X a ta) (hb : PE X (.BoolOp .And (b :: rest) pos) tb) : PE X (.BoolOp .And (a :: b :: rest) pos) (tAndV ta tb) := by
  intro pins s σ H Q I h
  refine BoolOp_and (thn (ha pins s σ H _ I h) fun v s1 ⟨x, H1, I1, r1, q1⟩ => ?_)
  obtain ⟨c, rfl, q1⟩ := q1
  cases r1
  refine wpAny_truthy_bool ?_
  cases c with
  | true => exact hb pins s1 σ H1 Q I1 q1
  | false => exact ⟨.bl false, H1, I1, rfl, q1⟩
theorem pe_not (ha : PE X a ta) : PE X (.UnaryOp .Not a pos) (tNotV ta) := by
  intro pins s σ H Q I h
  refine UnaryOp_ (thn (ha pins s σ H _ I h) fun v s1 ⟨x, H1, I1, r1, q1⟩ => ?_)
  obtain ⟨c, rfl, q1⟩ := q1
  cases r1
  exact not_of (wpAny_truthy_bool ⟨.bl (!c), H1, I1, rfl, q1⟩)
/-- a if t else b -/
def tIf (t : TT) (ta tb : TE) : TE := fun σ H Q => t σ H fun c H1 => if c = true then ta σ H1 Q else tb σ H1 Q
end
end L2

namespace L2
open PySem PySem.Spec PyProof.Rows

/-! ### a list, a tuple that is read: tracked, frozen, or an object of the module -/
def SqL (K : PySem.W.Frag) (H : Hp) (a : Addr) (xs : List V) : Prop :=
  Rd H a (.lst xs) ∨
    ∃ (o : Obj) (its : Array Value) (n : Nat), K.lookup a = some o ∧ o.cls = .type "list" ∧ o.dict = none ∧ o.data = .seq its n ∧ its.size ≤ sizeLine ∧ Vals xs its.toList
def SqT (K : PySem.W.Frag) (H : Hp) (a : Addr) (xs : List V) : Prop :=
  Rd H a (.tup xs) ∨
    ∃ (o : Obj) (its : Array Value) (n : Nat), K.lookup a = some o ∧ o.cls = .type "tuple" ∧ o.data = .seq its n ∧ its.size ≤ sizeLine ∧ Vals xs its.toList
def absV : Value → Option V
  | .none => some .non
  | .bool b => some (.bl b)
  | .int i _ => some (.int i)
  | .str x _ => some (.str x)
  | .bytes b _ => some (.byt b)
  | .float b _ => some (.flt b)
  | .ref a => some (.ref a)
  | .type n => some (.ty n)
  | _ => none
theorem RelV.abs {x : V} {u : Value} (r : RelV x u) : absV u = some x := by
  cases x with
  | non => cases r; rfl
  | bl _ => cases r; rfl
  | int _ => obtain ⟨t, rfl⟩ := r; rfl
  | str _ => obtain ⟨t, rfl⟩ := r; rfl
  | byt _ => obtain ⟨t, rfl⟩ := r; rfl
  | flt _ => obtain ⟨t, rfl⟩ := r; rfl
  | ref _ => cases r; rfl
  | ty _ => cases r; rfl
theorem RelV.inj {x y : V} {u : Value} (r : RelV x u) (q : RelV y u) : x = y := Option.some.inj (r.abs.symm.trans q.abs)
theorem Vals.inj : ∀ {xs ys : List V} {us : List Value}, Vals xs us → Vals ys us → xs = ys
  | _, _, _, .nil, .nil => rfl
  | _, _, _, .cons r t, .cons r' t' => by rw [r.inj r', Vals.inj t t']
section
variable {X : Cx} {pins : List (Addr × Obj)} {σ : St} {H : Hp} {s : Shared} {a : Addr} {xs ys : List V}
theorem SqL.of {K : PySem.W.Frag} (h : H a = some (.lst xs)) : SqL K H a xs := .inl (.inl h)
theorem SqT.of {K : PySem.W.Frag} (h : H a = some (.tup xs)) : SqT K H a xs := .inl (.inl h)
theorem Inv.list (I : Inv X pins σ H s) (h : SqL X.K H a xs) : ∃ its : List Value, Vals xs its ∧ PlainL s.heap a its.toArray ∧ xs.length ≤ sizeLine := by
  rcases h with h | ⟨o, its, n, hk, hc, hd, hs, hz, r⟩
  · obtain ⟨z, its, n, r, e⟩ := h.ok I.hok
    exact ⟨its, r, ⟨_, n, e, rfl, rfl, rfl⟩, z⟩
  · refine ⟨its.toList, r, ⟨o, n, I.kIn a o hk, hc, hd, by simpa using hs⟩, ?_⟩
    have e := r.length
    simp only [Array.length_toList] at e
    omega
theorem Inv.tuple (I : Inv X pins σ H s) (h : SqT X.K H a xs) : ∃ its : List Value, Vals xs its ∧ IsTup s.heap a its.toArray ∧ xs.length ≤ sizeLine := by
  rcases h with h | ⟨o, its, n, hk, hc, hs, hz, r⟩
  · obtain ⟨z, its, r, p⟩ := h.ok I.hok
    exact ⟨its, r, p, z⟩
  · refine ⟨its.toList, r, ⟨o, I.kIn a o hk, hc, n, by simpa using hs⟩, ?_⟩
    have e := r.length
    simp only [Array.length_toList] at e
    omega
theorem Inv.list_inj (I : Inv X pins σ H s) (h : SqL X.K H a xs) (h' : SqL X.K H a ys) : xs = ys := by
  obtain ⟨its, r, ⟨o, n, e, _, _, d⟩, _⟩ := I.list h
  obtain ⟨its', r', ⟨o', n', e', _, _, d'⟩, _⟩ := I.list h'
  rw [e] at e'; cases e'
  rw [d] at d'
  injection d' with d1 _
  have : its = its' := by simpa using congrArg Array.toList d1
  subst this
  exact r.inj r'
end

/-! ### another wish about exceptions -/
abbrev Cx.wish (X : Cx) (E : Value → Shared → Prop) : Cx := { X with xe := E }
/-- no exception leaves -/
abbrev Cx.nox (X : Cx) : Cx := X.wish fun _ _ => False
theorem Cx.Ok.wish {X : Cx} (ok : X.Ok) (E : Value → Shared → Prop) : (X.wish E).Ok :=
  ⟨ok.mod, ok.kind, ok.glob, ok.blt, ok.above, ok.inj, ok.has, ok.cab, ok.hd, ok.frames, ok.stk, ok.exf, ok.bs, ok.bsz, ok.noex, ok.exfs, ok.funs, ok.frf⟩
theorem Cx.Ok.unwish {X : Cx} {E : Value → Shared → Prop} (ok : (X.wish E).Ok) : X.Ok :=
  ⟨ok.mod, ok.kind, ok.glob, ok.blt, ok.above, ok.inj, ok.has, ok.cab, ok.hd, ok.frames, ok.stk, ok.exf, ok.bs, ok.bsz, ok.noex, ok.exfs, ok.funs, ok.frf⟩
section
variable {X : Cx} {pins : List (Addr × Obj)} {σ : St} {H : Hp} {s : Shared} {E : Value → Shared → Prop}
theorem Inv.wish (I : Inv X pins σ H s) (E : Value → Shared → Prop) : Inv (X.wish E) pins σ H s := ⟨I.ok.wish E, I.os, I.bare, I.base, I.loc, I.cell, I.free, I.freeC, I.pin, I.hok, I.len⟩
theorem Inv.unwish (I : Inv (X.wish E) pins σ H s) : Inv X pins σ H s := ⟨I.ok.unwish, I.os, I.bare, I.base, I.loc, I.cell, I.free, I.freeC, I.pin, I.hok, I.len⟩
theorem SP.unwish {D : Ends} {f : Flow} {s' : Shared} (h : SP (X.wish E) pins D f s') : SP X pins D f s' := by
  cases f with
  | next => obtain ⟨σ', H', I, q⟩ := h; exact ⟨σ', H', I.unwish, q⟩
  | brk => obtain ⟨σ', H', I, q⟩ := h; exact ⟨σ', H', I.unwish, q⟩
  | cont => obtain ⟨σ', H', I, q⟩ := h; exact ⟨σ', H', I.unwish, q⟩
  | ret u => obtain ⟨v, σ', H', I, r, q⟩ := h; exact ⟨v, σ', H', I.unwish, r, q⟩
theorem PSs.nox {st : List Stmt} {t : TS} (h : PSs X.nox st t) : PSs X st t := fun pins s σ H D I hw =>
  wpAny_mono (h pins s σ H D (I.wish _) hw) (fun _ _ q => q.unwish) fun _ _ z => False.elim z
end

/-! ### blocks and small statements -/
section
variable {X : Cx} {st : Stmt} {rest : List Stmt} {t u : TS} {e : Expr} {te : TE} {pos : Pos}
def tNext : TS := fun D σ H => D.nx σ H
def tSeq (t u : TS) : TS := fun D σ H => t { D with nx := u D } σ H
theorem pss_nil : PSs X [] tNext := fun _ _ σ H _ I h => wpAny_execs_nil ⟨σ, H, I, h⟩
theorem pss_cons (h1 : PS X st t) (h2 : PSs X rest u) : PSs X (st :: rest) (tSeq t u) := by
  intro pins s σ H D I h
  refine wpAny_execs_cons (thn (h1 pins s σ H { D with nx := u D } I h) fun f s1 q => ?_)
  cases f with
  | next =>
    obtain ⟨σ', H', I', q⟩ := q
    exact h2 pins s1 σ' H' D I' q
  | ret v => exact q
  | brk => exact q
  | cont => exact q
theorem pss_one (h1 : PS X st t) : PSs X [st] t := by
  intro pins s σ H D I h
  refine wpAny_execs_cons (thn (h1 pins s σ H D I h) fun f s1 q => ?_)
  cases f with
  | next => exact wpAny_execs_nil q
  | ret v => exact q
  | brk => exact q
  | cont => exact q
def tBreak : TS := fun D σ H => D.bk σ H
def tCont : TS := fun D σ H => D.ct σ H
/-- in a def's body nothing is shown -/
theorem Inv.quiet {pins : List (Addr × Obj)} {σ : St} {H : Hp} {s : Shared} (I : Inv X pins σ H s) : interactive X.env = false := by simp [interactive, I.ok.kind]
/-- an expression whose value is dropped -/
def tDrop (te : TE) : TS := fun D σ H => te σ H fun _ H1 => D.nx σ H1
theorem ps_expr (he : PE X e te) (hs : swapsWith e none pos.line X.env = pure false := by rfl) : PS X (.Expr e pos) (tDrop te) := by
  intro pins s σ H D I h
  exact wpAny_Expr_any (thn (he pins s σ H _ I h) fun v s1 ⟨x, H1, I1, r1, q1⟩ => ⟨σ, H1, I1, q1⟩) I.quiet hs
def tRet (te : TE) : TS := fun D σ H => te σ H D.rt
theorem ps_ret (he : PE X e te) : PS X (.Return (some e) pos) (tRet te) := by
  intro pins s σ H D I h
  exact wpAny_Return_some (thn (he pins s σ H _ I h) fun v s1 ⟨x, H1, I1, r1, q1⟩ => ⟨x, σ, H1, I1, r1, q1⟩)
def tRetN : TS := fun D _ H => D.rt .non H
def tIfS (c : TT) (t u : TS) : TS := fun D σ H => c σ H fun b H1 => if b = true then t D σ H1 else u D σ H1
theorem ps_if {c : Expr} {a b : List Stmt} {tc : TT} (hc : PT X c tc) (ha : PSs X a t) (hb : PSs X b u) : PS X (.If c a b pos) (tIfS tc t u) := by
  intro pins s σ H D I h
  refine wpAny_If (thn (hc pins s σ H _ I h) fun d s1 ⟨H1, I1, q1⟩ => ?_)
  cases d with
  | true => exact ha pins s1 σ H1 D I1 q1
  | false => exact hb pins s1 σ H1 D I1 q1
/-- code that the proof never comes to -/
def tNever : TS := fun _ _ _ => False
end

/-! ### targets -/
abbrev TG := V → St → Hp → (St → Hp → Prop) → Prop
abbrev TGs := List V → St → Hp → (St → Hp → Prop) → Prop
def PG (X : Cx) (target : Expr) (t : TG) : Prop :=
  ∀ (pins : List (Addr × Obj)) (s : Shared) (σ : St) (H : Hp) (v : V) (u : Value) (Q : St → Hp → Prop), Inv X pins σ H s → RelV v u → t v σ H Q →
    wpAny (model X.prog X.w) X.A (assign target X.env u) (fun _ s' => ∃ σ' H', Inv X pins σ' H' s' ∧ Q σ' H') X.xe s
/-- several targets, one after another -/
def PGs (X : Cx) (ts : List Expr) (t : TGs) : Prop :=
  ∀ (pins : List (Addr × Obj)) (s : Shared) (σ : St) (H : Hp) (vs : List V) (us : List Value) (Q : St → Hp → Prop), Inv X pins σ H s → Vals vs us → t vs σ H Q →
    wpAny (model X.prog X.w) X.A (assignInOrder ((assignEach ts X.env).map (·.2)) us) (fun _ s' => ∃ σ' H', Inv X pins σ' H' s' ∧ Q σ' H') X.xe s
/-- o[i] = v, by values -/
abbrev TSet := V → V → V → Hp → (Hp → Prop) → Prop
def PSet (X : Cx) (t : TSet) : Prop :=
  ∀ (pins : List (Addr × Obj)) (s : Shared) (σ : St) (H : Hp) (o i v : V) (ov iv u : Value) (Q : Hp → Prop), Inv X pins σ H s → RelV o ov → RelV i iv → RelV v u → t o i v H Q →
    wpAny (model X.prog X.w) X.A (setItem ov iv u) (fun _ s' => ∃ H', Inv X pins σ H' s' ∧ Q H') X.xe s
/-- a op= b, by values -/
abbrev TIp := V → V → Hp → VK → Prop
def PIp (X : Cx) (op : Operator) (t : TIp) : Prop :=
  ∀ (pins : List (Addr × Obj)) (s : Shared) (σ : St) (H : Hp) (x y : V) (v u : Value) (Q : VK), Inv X pins σ H s → RelV x v → RelV y u → t x y H Q →
    wpAny (model X.prog X.w) X.A (inplaceOp op v u) (EP X pins σ Q) X.xe s
section
variable {X : Cx} {pos : Pos}
def gName (i : Nat) : TG := fun v σ H Q => Q (σ.set i (some v)) H
theorem pg_name {i : Nat} {x : Str} (hN : X.N.Nodup) (hi : X.N[i]? = some x) (hx : Loc X.env.scope x) (hf : X.fn x = true ∨ X.env.scope.names.lookup x = some .local := by first | exact .inl rfl | exact .inr rfl | assumption) : PG X (.Name x pos) (gName i) := by
  intro pins s σ H v u Q I r h
  exact wpAny_assign_Name (store_ok I hN hi hx r (fun s' I' => ⟨_, H, I', h⟩) hf)
def gNil : TGs := fun vs σ H Q => vs = [] ∧ Q σ H
def gCons (t : TG) (u : TGs) : TGs := fun vs σ H Q => ∃ v r, vs = v :: r ∧ t v σ H fun σ' H' => u r σ' H' Q
theorem pgs_nil : PGs X [] gNil := by
  intro pins s σ H vs us Q I r h
  obtain ⟨e, h⟩ := h
  subst e
  cases r
  exact assignInOrder_nil ⟨σ, H, I, h⟩
theorem pgs_cons {e : Expr} {es : List Expr} {t : TG} {u : TGs} (h1 : PG X e t) (h2 : PGs X es u)
    (hs : (assignEach (e :: es) X.env).map (·.2) = assign e X.env :: (assignEach es X.env).map (·.2) := by rfl) : PGs X (e :: es) (gCons t u) := by
  intro pins s σ H vs us Q I r h
  obtain ⟨v, vr, e1, h⟩ := h
  subst e1
  cases r with
  | cons r rr =>
    rw [hs]
    refine assignInOrder_cons (thn (h1 pins s σ H _ _ _ I r h) fun _ s1 ⟨σ1, H1, I1, q1⟩ => ?_)
    exact h2 pins s1 σ1 H1 _ _ Q I1 rr q1
/-- (a, b, ..) = a tuple of that length -/
def gTup (K : PySem.W.Frag) (n : Nat) (t : TGs) : TG := fun v σ H Q => ∃ a xs, v = .ref a ∧ SqT K H a xs ∧ xs.length = n ∧ t xs σ H Q
theorem pg_tup {es : List Expr} {k : Nat} {t : TGs} {n : Nat} (hc : X.calm = true) (h : PGs X es t)
    (hn : (assignEach es X.env).length = n := by rfl) (hst : (assignEach es X.env).findIdx? (·.1) = none := by rfl) : PG X (.Tuple es k pos) (gTup X.K n t) := by
  intro pins s σ H v u Q I r hw
  obtain ⟨a, xs, e1, hq, hl, hw⟩ := hw
  subst e1
  cases r
  obtain ⟨its, rv, ht, hz⟩ := I.tuple hq
  refine assign_Tuple_tuple (I.ok.hd hc) ht (by simp [hn, ← hl, rv.length]) hst fun h' hx => ?_
  have I1 : Inv X pins σ H { s with heap := h' } := I.kept (t' := s.toks) fun b o e => hx b o (Nat.ne_of_lt (Heap.lt_size e)) e
  exact h pins _ σ H xs _ Q I1 (by simpa using rv) hw
/-- o[i] = .. -/
def gSub (to ti : TE) (t : TSet) : TG := fun v σ H Q => to σ H fun o H1 => ti σ H1 fun i H2 => t o i v H2 fun H3 => Q σ H3
theorem pg_sub {o i : Expr} {to ti : TE} {t : TSet} (ho : PE X o to) (hi : PE X i ti) (hs : PSet X t)
    (ha : ∀ v, assign (.Subscript o i pos) X.env v = (do
      let ov ← holding [v] (eval o X.env)
      let iv ← holding [v, ov] (eval i X.env)
      standAt pos
      holding [v, ov, iv] (setItem ov iv v)
      release [v, ov, iv] []) := by intro _; rfl) : PG X (.Subscript o i pos) (gSub to ti t) := by
  intro pins s σ H v u Q I r h
  rw [ha]
  refine wpAny_bind (wpAny_holding (thn (ho pins s σ H _ I h) fun ov s1 ⟨x, H1, I1, r1, q1⟩ => ?_))
  refine wpAny_bind (wpAny_holding (thn (hi pins s1 σ H1 _ I1 q1) fun iv s2 ⟨y, H2, I2, r2, q2⟩ => ?_))
  refine wpAny_bind (wpAny_standAt (wpAny_bind (wpAny_holding (thn (hs pins s2 σ H2 x y v ov iv u _ I2 r1 r2 r q2) fun _ s3 ⟨H3, I3, q3⟩ => ?_))))
  exact wpAny_release ⟨σ, H3, I3, q3⟩
/-- target = value -/
def tAsg (te : TE) (g : TG) : TS := fun D σ H => te σ H fun x H1 => g x σ H1 D.nx
theorem ps_asg {tg e : Expr} {te : TE} {g : TG} (he : PE X e te) (hg : PG X tg g) (hs : swapsWithSole [tg] e pos.line X.env = pure false := by rfl) (hw : swappedStores [tg] e X.env = pure none := by rfl)
    (h1 : (assignEach [tg] X.env).map (·.2) = [assign tg X.env] := by rfl) : PS X (.Assign [tg] e pos) (tAsg te g) := by
  intro pins s σ H D I h
  refine wpAny_Assign_stores (thn (he pins s σ H _ I h) fun v s1 ⟨x, H1, I1, r1, q1⟩ => ?_) hs hw
  rw [h1]
  exact thn (hg pins s1 σ H1 x v _ I1 r1 q1) fun _ s2 q => q
/-- name = value -/
theorem ps_set {i : Nat} {x : Str} {e : Expr} {te : TE} {pos' : Pos} (hN : X.N.Nodup) (hi : X.N[i]? = some x) (hx : Loc X.env.scope x) (he : PE X e te) (hs : swapsWith e (some (.Name x pos')) pos.line X.env = pure false := by rfl) (hf : X.fn x = true ∨ X.env.scope.names.lookup x = some .local := by first | exact .inl rfl | exact .inr rfl | assumption) :
    PS X (.Assign [.Name x pos'] e pos) (tAsg te (gName i)) := by
  intro pins s σ H D I h
  refine wpAny_Assign_Name (thn (he pins s σ H _ I h) fun v s1 ⟨y, H1, I1, r1, q1⟩ => ?_) hs
  exact store_ok I1 hN hi hx r1 (fun s2 I2 => ⟨_, H1, I2, q1⟩) hf
/-- a, b = x, y with plain local names: stored from the right; the pair itself is not tracked (the opening rows as in PyProof/Rows/TupAssign.lean:23) -/
def tPar (i j : Nat) (ta : TA) : TS := fun D σ H => ta σ H fun vs H1 => ∃ v w, vs = [v, w] ∧ D.nx ((σ.set i (some v)).set j (some w)) H1
/-- name op= e -/
def tAug (i : Nat) (te : TE) (ti : TIp) : TS := fun D σ H => ∃ x, σ[i]? = some (some x) ∧ te σ H fun y H1 => ti x y H1 fun z H2 => D.nx (σ.set i (some z)) H2
/-- o[i] op= e -/
def tAugS (to ti te : TE) (tget : V → V → Hp → VK → Prop) (tip : TIp) (tset : TSet) : TS := fun D σ H => to σ H fun o H1 => ti σ H1 fun i H2 => tget o i H2 fun x H3 => te σ H3 fun y H4 => tip x y H4 fun z H5 => tset o i z H5 fun H6 => D.nx σ H6
/-- o[i], by values -/
def PGet (X : Cx) (t : V → V → Hp → VK → Prop) : Prop :=
  ∀ (pins : List (Addr × Obj)) (s : Shared) (σ : St) (H : Hp) (o i : V) (ov iv : Value) (Q : VK), Inv X pins σ H s → RelV o ov → RelV i iv → t o i H Q →
    wpAny (model X.prog X.w) X.A (getItem ov iv) (EP X pins σ Q) X.xe s
/-- ints -/
def ipI (f : Int → Int → Int) : TIp := fun x y H Q => ∃ i j, x = .int i ∧ y = .int j ∧ Q (.int (f i j)) H
end

/-! ### while -/
section
variable {X : Cx} {pos : Pos}
/-- the invariant W with its measure -/
def tWhile (c : TT) (tb : TS) : TS := fun D σ H => ∃ W : Nat → St → Hp → Prop, (∃ m, W m σ H) ∧ ∀ m σ H, W m σ H →
  c σ H fun b H1 => if b = true then ∃ N : St → Hp → Prop, (∀ σ' H', N σ' H' → ∃ m', m' < m ∧ W m' σ' H') ∧ tb { D with nx := N, ct := N, bk := D.nx } σ H1 else D.nx σ H1
theorem ps_while {c : Expr} {body : List Stmt} {tc : TT} {tb : TS} (hp : PassesOwn (model X.prog X.w) X.A X.env X.xe) (hc : PT X c tc) (hb : PSs X body tb) : PS X (.While c body [] pos) (tWhile tc tb) := by
  intro pins s σ H D I h
  obtain ⟨W, ⟨m0, w0⟩, turn⟩ := h
  refine wpAny_While (codeAny_whileLoop (fun n s' => ∃ σ' H', Inv X pins σ' H' s' ∧ W n σ' H') ?_ m0 ⟨σ, H, I, w0⟩)
  rintro n s1 ⟨σ1, H1, I1, w1⟩
  refine wpAny_passesOwn hp (thn (hc pins s1 σ1 H1 _ I1 (turn n σ1 H1 w1)) fun b s2 ⟨H2, I2, q2⟩ => ?_)
  cases b with
  | true =>
    obtain ⟨N, hN, q2⟩ := q2
    rw [if_pos rfl]
    refine wpAny_passesOwn hp (thn (hb pins s2 σ1 H2 _ I2 q2) fun f s3 q3 => ?_)
    cases f with
    | next =>
      obtain ⟨σ3, H3, I3, n3⟩ := q3
      obtain ⟨m', hm, w3⟩ := hN σ3 H3 n3
      exact ⟨m', hm, σ3, H3, I3, w3⟩
    | cont =>
      obtain ⟨σ3, H3, I3, n3⟩ := q3
      obtain ⟨m', hm, w3⟩ := hN σ3 H3 n3
      exact ⟨m', hm, σ3, H3, I3, w3⟩
    | brk => exact q3
    | ret v => exact q3
  | false =>
    rw [if_neg Bool.false_ne_true]
    exact wpAny_execs_nil ⟨σ1, H2, I2, q2⟩
end

/-! ### what a loop or a comprehension walks -/
/-- at turn i: it yields x (the heap may grow), or it stops -/
structure It where
  go : Nat → Hp → Prop
  yld : Nat → Hp → V → Hp → Prop
  stop : Nat → Hp → Prop
/-- the iterator's own objects may turn: they are not the frame's, not pinned, younger than the entry (or a comprehension's own) -/
def FpOk (X : Cx) (pins : List (Addr × Obj)) (H : Hp) (b : Addr) : Prop :=
  H b = none ∧ b ≠ X.env.locals ∧ b ∉ X.fs ∧ (b ∈ X.ex ∨ X.s₀.heap.objs.size ≤ b) ∧ (∀ x c, X.env.cells.lookup x = some c → c ≠ b) ∧ ∀ p ∈ X.pn ++ pins, p.1 ≠ b
theorem Inv.fpOk {X : Cx} {pins : List (Addr × Obj)} {σ : St} {H H' : Hp} {s : Shared} {b : Addr} (I : Inv X pins σ H s) (hb : s.heap.objs.size ≤ b) (hn : H' b = none) : FpOk X pins H' b := by
  refine ⟨hn, Nat.ne_of_gt (Nat.lt_of_lt_of_le I.lt hb), I.nofs hb, .inr (Nat.le_trans I.sz hb), fun x c e z => ?_, fun p hp z => ?_⟩
  · obtain ⟨v, q⟩ := I.cell x c e
    exact absurd (Nat.lt_of_lt_of_le q.lt (by rw [z]; exact hb)) (Nat.lt_irrefl _)
  · exact absurd (Nat.lt_of_lt_of_le (Heap.lt_size (I.pin p hp).1) (by rw [z]; exact hb)) (Nat.lt_irrefl _)
structure Turn (P : Program) (w : World) (K : PySem.W.Frag) (tg : Expr) (J : It) (fp : List Addr) (it : Addr) (tn : Nat → Heap → Prop) : Prop where
  mem : it ∈ fp
  obj : ∀ i h, tn i h → ∀ b ∈ fp, ∃ o, h.get? b = some o ∧ ∀ v, o.data ≠ .cell v
  keep : ∀ i h h', tn i h → (∀ b ∈ fp, ∀ o, h.get? b = some o → h'.get? b = some o) → tn i h'
  item : ∀ (X : Cx), X.prog = P → X.w = w → X.K = K → X.calm = true → ∀ (i : Nat) (pins : List (Addr × Obj)) (s : Shared) (σ : St) (H : Hp) (E : Value → Shared → Prop), Inv X pins σ H s → (∀ b ∈ fp, FpOk X pins H b) → tn i s.heap → J.go i H →
    wpAny (model P w) X.A (pyNext (.ref it)) (fun r s1 => ∃ u, r = some u ∧
      wpAny (model P w) X.A (letOwnedTupleGo tg (.ref it) u) (fun _ s2 => ∃ x H', Inv X pins σ H' s2 ∧ RelV x u ∧ J.yld i H x H' ∧ tn (i + 1) s2.heap ∧ ∀ b ∈ fp, H' b = none) E s1) E s
  done : ∀ (X : Cx), X.prog = P → X.w = w → X.K = K → X.calm = true → ∀ (i : Nat) (pins : List (Addr × Obj)) (s : Shared) (σ : St) (H : Hp) (E : Value → Shared → Prop), Inv X pins σ H s → (∀ b ∈ fp, FpOk X pins H b) → tn i s.heap → J.stop i H →
    wpAny (model P w) X.A (pyNext (.ref it)) (fun r s1 => r = none ∧ Inv X pins σ H s1) E s
  self : ∀ (A : Around) (i : Nat) (s : Shared) (Q : Value → Shared → Prop) (E : Value → Shared → Prop), tn i s.heap → Q (.ref it) s → wpAny (model P w) A (pyIter (.ref it)) Q E s
abbrev TI := St → Hp → (It → Hp → Prop) → Prop
/-- an iterator has come -/
def PIE (X : Cx) (pins : List (Addr × Obj)) (σ : St) (tg : Expr) (R : It → Hp → Prop) (itv : Value) (s2 : Shared) : Prop :=
  ∃ (it : Addr) (fp : List Addr) (tn : Nat → Heap → Prop) (J : It) (H' : Hp), itv = .ref it ∧ Inv X pins σ H' s2 ∧ Turn X.prog X.w X.K tg J fp it tn ∧ tn 0 s2.heap ∧ (∀ b ∈ fp, FpOk X pins H' b) ∧ R J H'
def PI (X : Cx) (tg iter : Expr) (wi : TI) : Prop :=
  ∀ (pins : List (Addr × Obj)) (s : Shared) (σ : St) (H : Hp) (R : It → Hp → Prop), Inv X pins σ H s → wi σ H R →
    wpAny (model X.prog X.w) X.A (eval iter X.env) (fun v s1 => wpAny (model X.prog X.w) X.A (pyIter v) (PIE X pins σ tg R) X.xe s1) X.xe s

/-- the step ahead of the store is nothing for an iterator that keeps no tuple -/
theorem go_of {M : Model} {A : Around} {E : Value → Shared → Prop} {s : Shared} {tg : Expr} {it : Addr} {u : Value} {o : Obj} {n : String} {vs : Array Value} {Q : Unit → Shared → Prop} (ho : s.heap.get? it = some o) (hc : o.cls = .type n) (hd : o.data = .fields vs)
    (hn : ["enumerate", "zip", "dict_itemiterator", "dict_reverseitemiterator", "odict_iterator", "itertools.zip_longest", "itertools.pairwise"].contains n = false) (hQ : Q () s) : wpAny M A (letOwnedTupleGo tg (.ref it) u) Q E s := by
  unfold letOwnedTupleGo
  cases tg <;> first
    | exact wpAny_pure hQ
    | (cases u <;> first
        | exact wpAny_pure hQ
        | (refine wpAny_bind (wpAny_load ho ?_)
           rw [hc, hd]
           show wpAny M A (if (["enumerate", "zip", "dict_itemiterator", "dict_reverseitemiterator", "odict_iterator", "itertools.zip_longest", "itertools.pairwise"].contains n && vs[0]? == some (rawInt _)) = true then _ else _) Q E s
           rw [if_neg (by intro h; rw [hn, Bool.false_and] at h; cases h)]
           exact wpAny_pure hQ))

/-- the list at a, as it stands at each turn (a loop may append to it) -/
def Itl (K : PySem.W.Frag) (a : Addr) : It :=
  ⟨fun i H => ∃ xs x, SqL K H a xs ∧ xs[i]? = some x, fun i H x H' => H' = H ∧ ∀ xs, SqL K H a xs → xs[i]? = some x, fun i H => ∃ xs, SqL K H a xs ∧ xs.length ≤ i⟩
def Itt (K : PySem.W.Frag) (a : Addr) : It :=
  ⟨fun i H => ∃ xs x, SqT K H a xs ∧ xs[i]? = some x, fun i H x H' => H' = H ∧ ∀ xs, SqT K H a xs → xs[i]? = some x, fun i H => ∃ xs, SqT K H a xs ∧ xs.length ≤ i⟩
/-- lo, lo + 1, .. (n of them) -/
def Itr (lo : Int) (n : Nat) : It := ⟨fun i _ => i < n, fun i H x H' => H' = H ∧ x = .int (lo + i), fun i _ => n ≤ i⟩
theorem turn_list {P : Program} {w : World} {K : PySem.W.Frag} {tg : Expr} (a it : Addr) : Turn P w K tg (Itl K a) [it] it (fun i h => h.IsListIter it a i) where
  mem := by simp
  obj := fun i h st b hb => by
    have e : b = it := by simpa using hb
    subst e
    obtain ⟨o, e, c, d⟩ := st
    exact ⟨o, e, fun v z => by rw [d] at z; cases z⟩
  keep := fun i h h' st k => st.at fun o e => k it (by simp) o e
  item := by
    intro X hP hw hK hc i pins s σ H E I hf st hg
    subst hP hw hK
    obtain ⟨xs, x, hq, hx⟩ := hg
    obtain ⟨its, rv, p, hz⟩ := I.list hq
    obtain ⟨u, hu, ru⟩ := rv.get hx
    obtain ⟨f0, f1, f2, f3, f4, f5⟩ := hf it (by simp)
    refine wpAny_pyNext_list_item st p.isList (x := u) (by simpa using hu) fun h' st' sb => ?_
    have I1 : Inv X pins σ H { s with heap := h' } := I.turned (t' := s.toks) (fun b o hb e => (sb.2 b hb).trans e) f0 f1 f3 f4 f5
    obtain ⟨o, e, c, d⟩ := id st'
    exact ⟨u, rfl, go_of (s := { s with heap := h' }) e c d (by decide) ⟨x, H, I1, ru, ⟨rfl, fun ys hy => by rw [I.list_inj hy hq]; exact hx⟩, st', fun b hb => (hf b hb).1⟩⟩
  done := by
    intro X hP hw hK hc i pins s σ H E I hf st hg
    subst hP hw hK
    obtain ⟨xs, hq, hx⟩ := hg
    obtain ⟨its, rv, p, hz⟩ := I.list hq
    obtain ⟨f0, f1, f2, f3, f4, f5⟩ := hf it (by simp)
    have hl := rv.length
    exact wpAny_pyNext_list_end (I.ok.hd hc) st p.isList (by simp; omega) fun h' eb => ⟨rfl, I.turned (t' := s.toks) (fun b o hb e => eb b o hb e) f0 f1 f3 f4 f5⟩
  self := fun _ _ _ _ _ st h => wpAny_pyIter_listiter st h
theorem turn_range {P : Program} {w : World} {K : PySem.W.Frag} {tg : Expr} (it : Addr) (lo : Int) (n : Nat) : Turn P w K tg (Itr lo n) [it] it (fun i h => IsRangeIter h it (lo + (i : Nat) * 1) ((n : Int) - (i : Nat)) 1) where
  mem := by simp
  obj := fun i h st b hb => by
    have e : b = it := by simpa using hb
    subst e
    exact ⟨_, st, fun v z => by
      have z' : Data.fields _ = Data.cell v := z
      cases z'⟩
  keep := fun i h h' st k => k it (by simp) _ st
  item := by
    intro X hP hw hK hc i pins s σ H E I hf st hg
    subst hP hw hK
    obtain ⟨f0, f1, f2, f3, f4, f5⟩ := hf it (by simp)
    have W := Walks.range (prog := X.prog) (w := X.w) (I.ok.hd hc) it lo 1 n
    refine W.item i s _ _ hg st fun v h' tk hv st' kk => ?_
    obtain ⟨t, rfl⟩ := hv
    have I1 : Inv X pins σ H { s with heap := h', toks := tk } := I.turned (fun b o hb e => kk b o (by simpa using hb) e) f0 f1 f3 f4 f5
    refine ⟨_, rfl, go_of (s := { s with heap := h', toks := tk }) (n := "range_iterator") st' rfl rfl (by decide) ⟨.int (lo + i), H, I1, ⟨t, ?_⟩, ⟨rfl, rfl⟩, st', fun b hb => (hf b hb).1⟩⟩
    rw [Int.mul_one]
  done := by
    intro X hP hw hK hc i pins s σ H E I hf st hg
    subst hP hw hK
    obtain ⟨f0, f1, f2, f3, f4, f5⟩ := hf it (by simp)
    exact wpAny_pyNext_range_end (I.ok.hd hc) st (by have : n ≤ i := hg; omega) fun h' eb => ⟨rfl, I.turned (t' := s.toks) (fun b o hb e => eb b o hb e) f0 f1 f3 f4 f5⟩
  self := fun _ _ _ _ _ st h => wpAny_pyIter_rangeiter st h
end L2

namespace L2
open PySem PySem.Spec PyProof.Rows
section
variable {X : Cx} {tg : Expr}
def iList (K : PySem.W.Frag) (tl : TE) : TI := fun σ H R => tl σ H fun x H1 => ∃ a, x = .ref a ∧ (∃ xs, SqL K H1 a xs) ∧ R (Itl K a) H1
def iTup (K : PySem.W.Frag) (tl : TE) : TI := fun σ H R => tl σ H fun x H1 => ∃ a, x = .ref a ∧ (∃ xs, SqT K H1 a xs) ∧ R (Itt K a) H1
theorem pi_list {l : Expr} {tl : TE} (hl : PE X l tl) : PI X tg l (iList X.K tl) := by
  intro pins s σ H R I h
  refine thn (hl pins s σ H _ I h) fun v s1 ⟨x, H1, I1, r1, q1⟩ => ?_
  obtain ⟨a, e, ⟨xs, hq⟩, q⟩ := q1
  subst e
  cases r1
  obtain ⟨its, rv, p, hz⟩ := I1.list hq
  refine wpAny_pyIter_list p.isList ?_
  refine ⟨s1.heap.objs.size, [s1.heap.objs.size], _, _, H1, rfl, I1.kept (t' := s1.toks) fun b o e => Heap.get?_push_of_some _ e, turn_list a _, ⟨_, Heap.get?_push_size _ rfl, rfl, rfl⟩, fun b hb => ?_, q⟩
  have e : b = s1.heap.objs.size := by simpa using hb
  subst e
  exact I1.fpOk (Nat.le_refl _) (I1.hok.fresh (Nat.le_refl _))
/-- a range object just made, walked -/
theorem range_it {pins : List (Addr × Obj)} {σ : St} {H : Hp} {s : Shared} {R : It → Hp → Prop} {E : Value → Shared → Prop} {lo hi : Int} {t u v : Tok} {tk : Nat} (I : Inv X pins σ H s) (h1 : -(2 ^ 62) ≤ lo) (h2 : lo < 2 ^ 62) (h3 : -(2 ^ 62) ≤ hi) (h4 : hi < 2 ^ 62)
    (q : R (Itr lo (hi - lo).toNat) H) : wpAny (model X.prog X.w) X.A (pyIter (.ref s.heap.objs.size)) (PIE X pins σ tg R) E { s with heap := s.heap.push { cls := .type "range", data := .fields #[.int lo t, .int hi u, .int 1 v] }, toks := tk } := by
  refine wpAny_pyIter_range (IsRange.new ..) (small_one h1 h2 h3 h4) ?_
  have I1 : Inv X pins σ H { s with heap := s.heap.push { cls := .type "range", data := .fields #[.int lo t, .int hi u, .int 1 v] }, toks := tk } := I.kept fun b o e => Heap.get?_push_of_some _ e
  refine ⟨(s.heap.push { cls := .type "range", data := .fields #[.int lo t, .int hi u, .int 1 v] }).objs.size, [(s.heap.push { cls := .type "range", data := .fields #[.int lo t, .int hi u, .int 1 v] }).objs.size], _, _, H, rfl,
    I1.kept (t' := tk) fun b o e => Heap.get?_push_of_some _ e, turn_range _ lo (hi - lo).toNat, ?_, fun b hb => ?_, q⟩
  · have e1 : lo + ((0 : Nat) : Int) * 1 = lo := by simp
    have e2 : (((hi - lo).toNat : Nat) : Int) - ((0 : Nat) : Int) = Builtin.Range.rangeSize lo hi 1 := by rw [rangeSize_one]; split <;> omega
    show IsRangeIter _ _ (lo + ((0 : Nat) : Int) * 1) ((((hi - lo).toNat : Nat) : Int) - ((0 : Nat) : Int)) 1
    rw [e1, e2]
    exact Heap.get?_push_size _ rfl
  · have e : b = (s.heap.push { cls := .type "range", data := .fields #[.int lo t, .int hi u, .int 1 v] }).objs.size := by simpa using hb
    subst e
    exact I1.fpOk (Nat.le_refl _) (I1.hok.fresh (Nat.le_refl _))
def iRng1 (ta : TA) : TI := fun σ H R => ta σ H fun vs H1 => ∃ j : Int, vs = [.int j] ∧ -(2 ^ 62) ≤ j ∧ j < 2 ^ 62 ∧ R (Itr 0 j.toNat) H1
def iRng2 (ta : TA) : TI := fun σ H R => ta σ H fun vs H1 => ∃ i j : Int, vs = [.int i, .int j] ∧ (-(2 ^ 62) ≤ i ∧ i < 2 ^ 62 ∧ -(2 ^ 62) ≤ j ∧ j < 2 ^ 62) ∧ R (Itr i (j - i).toNat) H1
theorem pi_range1 {a : Expr} {ta : TA} {p pos : Pos} (hg : Gl X "range") (hm : X.mg "range" = none) (ha : PA X [a] ta) (hs : starEach [a] X.env = [(false, eval a X.env)] := by rfl) : PI X tg (.Call (.Name "range" p) [a] [] pos) (iRng1 ta) := by
  intro pins s σ H R I h
  refine Call_ (ld_blt I hg hm boot_range (PyProof.Rows.callWith_type1 (thn (ha pos pins s σ H _ I h) fun us s1 ⟨vs, H1, I1, r1, q1⟩ => ?_) hs rfl))
  obtain ⟨j, e, q1, q2, q⟩ := q1
  subst e
  cases r1 with
  | cons r rr =>
    cases rr
    obtain ⟨t, rfl⟩ := r
    exact call_range_1 (range_it I1 (by omega) (by omega) q1 q2 (by simpa using q))
/-! ### for -/
/-- W: the invariant by the turn and a measure; N: what the body is to reach -/
def tFor (wi : TI) (g : TG) (tb : TS) : TS := fun D σ H => wi σ H fun J H1 => ∃ W : Nat → Nat → St → Hp → Prop, (∃ m, W 0 m σ H1) ∧ ∀ i m σ H, W i m σ H →
  (J.stop i H ∧ D.nx σ H) ∨ (J.go i H ∧ ∃ N : St → Hp → Prop, (∀ σ' H', N σ' H' → ∃ m', m' < m ∧ W (i + 1) m' σ' H') ∧ ∀ x H', J.yld i H x H' → g x σ H' fun σ2 H2 => tb { D with nx := N, ct := N, bk := D.nx } σ2 H2)
/-- the records at fp as they stand -/
def pinsAt (fp : List Addr) (h : Heap) : List (Addr × Obj) := fp.filterMap fun b => (h.get? b).map fun o => (b, o)
theorem mem_pinsAt {fp : List Addr} {h : Heap} {b : Addr} {o : Obj} (hb : b ∈ fp) (e : h.get? b = some o) : (b, o) ∈ pinsAt fp h := List.mem_filterMap.mpr ⟨b, hb, by rw [e]; rfl⟩
theorem of_pinsAt {fp : List Addr} {h : Heap} {p : Addr × Obj} (hp : p ∈ pinsAt fp h) : p.1 ∈ fp ∧ h.get? p.1 = some p.2 := by
  obtain ⟨b, hb, e⟩ := List.mem_filterMap.mp hp
  cases q : h.get? b with
  | none => rw [q] at e; cases e
  | some o =>
    rw [q] at e
    have e' : (b, o) = p := Option.some.inj e
    subst e'
    exact ⟨hb, q⟩
theorem Inv.pinned {pins : List (Addr × Obj)} {σ : St} {H : Hp} {s : Shared} {fp : List Addr} (I : Inv X pins σ H s) (hf : ∀ b ∈ fp, FpOk X pins H b) (ho : ∀ b ∈ fp, ∃ o, s.heap.get? b = some o ∧ ∀ v, o.data ≠ .cell v) : Inv X (pins ++ pinsAt fp s.heap) σ H s :=
  I.pins_of fun p hp => (List.mem_append.mp hp).elim (fun z => I.pin p (List.mem_append_right _ z)) fun z => by
    obtain ⟨hb, e⟩ := of_pinsAt z
    obtain ⟨f0, f1, f2, _⟩ := hf p.1 hb
    obtain ⟨o, e', d⟩ := ho p.1 hb
    rw [e] at e'; cases e'
    exact ⟨e, f0, f1, f2, d⟩
theorem Inv.unpinned {pins pl : List (Addr × Obj)} {σ : St} {H : Hp} {s : Shared} (I : Inv X (pins ++ pl) σ H s) : Inv X pins σ H s := I.pins_of fun p hp => I.pin p (List.mem_append_right _ (List.mem_append_left _ hp))
theorem ps_for {iter : Expr} {body : List Stmt} {wi : TI} {g : TG} {tb : TS} {pos : Pos} (hp : PassesOwn (model X.prog X.w) X.A X.env X.xe) (hc : X.calm = true) (hi : PI X tg iter wi) (hg : PG X tg g) (hb : PSs X body tb)
    (hs : ∀ x, foldedSetIterable iter X.env x = pure x := by intro _; rfl) : PS X (.For tg iter body [] pos) (tFor wi g tb) := by
  intro pins s σ H D I h
  refine wpAny_For (thn (hi pins s σ H _ I h) fun v s1 h1 => thn h1 fun itv s2 h2 => ?_) hs
  obtain ⟨it, fp, tn, J, H2, e, I2, T, st2, f2, W, ⟨m0, w0⟩, turn⟩ := h2
  subst e
  -- what stays true of the iterator's objects through the loop
  have stat : ∀ {H' : Hp}, (∀ b ∈ fp, H' b = none) → ∀ b ∈ fp, FpOk X pins H' b := fun hn b hb => ⟨hn b hb, (f2 b hb).2⟩
  refine codeAny_forLoop_any (fun n s' => ∃ i σ' H', Inv X pins σ' H' s' ∧ tn i s'.heap ∧ (∀ b ∈ fp, H' b = none) ∧ W i n σ' H') ?_ m0 ⟨0, σ, H2, I2, st2, fun b hb => (f2 b hb).1, w0⟩
  rintro n s3 ⟨i, σ3, H3, I3, st3, fr3, w3⟩
  rcases turn i n σ3 H3 w3 with ⟨stop, qn⟩ | ⟨go, N, hN, step⟩
  · refine wpAny_passesOwn hp (thn (T.done X rfl rfl rfl hc i pins s3 σ3 H3 X.xe I3 (stat fr3) st3 stop) fun r s4 ⟨hr, I4⟩ => ?_)
    subst hr
    exact wpAny_execs_nil ⟨σ3, H3, I4, qn⟩
  · refine wpAny_passesOwn hp (thn (T.item X rfl rfl rfl hc i pins s3 σ3 H3 X.xe I3 (stat fr3) st3 go) fun r s4 ⟨u, hr, h4⟩ => ?_)
    subst hr
    refine wpAny_passesOwn hp (thn h4 fun _ s5 ⟨x, H5, I5, r5, y5, st5, fr5⟩ => ?_)
    have I5' := I5.pinned (stat fr5) (T.obj _ _ st5)
    refine wpAny_passesOwn hp (thn (hg _ s5 σ3 H5 x u _ I5' r5 (step x H5 y5)) fun _ s6 ⟨σ6, H6, I6, q6⟩ => ?_)
    refine wpAny_passesOwn hp (thn (hb _ s6 σ6 H6 _ I6 q6) fun f s7 q7 => ?_)
    have again : ∀ {σ7 : St} {H7 : Hp}, Inv X (pins ++ pinsAt fp s5.heap) σ7 H7 s7 → N σ7 H7 → ∃ m, m < n ∧ ∃ i σ' H', Inv X pins σ' H' s7 ∧ tn i s7.heap ∧ (∀ b ∈ fp, H' b = none) ∧ W i m σ' H' := fun {σ7 H7} I7 n7 => by
      obtain ⟨m', hm, w7⟩ := hN σ7 H7 n7
      refine ⟨m', hm, i + 1, σ7, H7, I7.unpinned, T.keep _ _ _ st5 fun b hb o e => (I7.pin (b, o) (List.mem_append_right _ (List.mem_append_right _ (mem_pinsAt hb e)))).1, fun b hb => ?_, w7⟩
      obtain ⟨o, e, d⟩ := T.obj _ _ st5 b hb
      exact (I7.pin (b, o) (List.mem_append_right _ (List.mem_append_right _ (mem_pinsAt hb e)))).2.1
    cases f with
    | next => obtain ⟨σ7, H7, I7, n7⟩ := q7; exact again I7 n7
    | cont => obtain ⟨σ7, H7, I7, n7⟩ := q7; exact again I7 n7
    | brk => obtain ⟨σ7, H7, I7, q7⟩ := q7; exact ⟨σ7, H7, I7.unpinned, q7⟩
    | ret v => obtain ⟨x7, σ7, H7, I7, r7, q7⟩ := q7; exact ⟨x7, σ7, H7, I7.unpinned, r7, q7⟩
end

/-! ### the forms one uses -/
/-- over a list that the body leaves as it is -/
theorem for_list {K : PySem.W.Frag} {a : Addr} {xs : List V} {g : TG} {tb : TS} {D : Ends} {σ : St} {H : Hp} (Pv : Nat → St → Hp → Prop) (h0 : Pv 0 σ H) (hl : ∀ i σ H, i ≤ xs.length → Pv i σ H → SqL K H a xs)
    (hs : ∀ i x σ H, xs[i]? = some x → Pv i σ H → g x σ H fun σ2 H2 => tb { D with nx := Pv (i + 1), ct := Pv (i + 1), bk := D.nx } σ2 H2) (hd : ∀ σ H, Pv xs.length σ H → D.nx σ H) :
    ∃ W : Nat → Nat → St → Hp → Prop, (∃ m, W 0 m σ H) ∧ ∀ i m σ H, W i m σ H →
      ((Itl K a).stop i H ∧ D.nx σ H) ∨ ((Itl K a).go i H ∧ ∃ N : St → Hp → Prop, (∀ σ' H', N σ' H' → ∃ m', m' < m ∧ W (i + 1) m' σ' H') ∧ ∀ x H', (Itl K a).yld i H x H' → g x σ H' fun σ2 H2 => tb { D with nx := N, ct := N, bk := D.nx } σ2 H2) := by
  refine ⟨fun i m σ H => m = xs.length - i ∧ i ≤ xs.length ∧ Pv i σ H, ⟨xs.length, by simp, Nat.zero_le _, h0⟩, ?_⟩
  rintro i m σ H ⟨rfl, hi, p⟩
  have q := hl i σ H hi p
  by_cases hlt : i < xs.length
  · refine .inr ⟨⟨xs, xs[i], q, by simp [hlt]⟩, Pv (i + 1), fun σ' H' p' => ⟨xs.length - (i + 1), by omega, rfl, hlt, p'⟩, fun x H' y => ?_⟩
    obtain ⟨e, y⟩ := y
    subst e
    exact hs i x σ _ (y xs q) p
  · have e : i = xs.length := by omega
    subst e
    exact .inl ⟨⟨xs, q, Nat.le_refl _⟩, hd σ H p⟩
theorem for_range {lo : Int} {n : Nat} {g : TG} {tb : TS} {D : Ends} {σ : St} {H : Hp} (Pv : Nat → St → Hp → Prop) (h0 : Pv 0 σ H)
    (hs : ∀ i σ H, i < n → Pv i σ H → g (.int (lo + i)) σ H fun σ2 H2 => tb { D with nx := Pv (i + 1), ct := Pv (i + 1), bk := D.nx } σ2 H2) (hd : ∀ σ H, Pv n σ H → D.nx σ H) :
    ∃ W : Nat → Nat → St → Hp → Prop, (∃ m, W 0 m σ H) ∧ ∀ i m σ H, W i m σ H →
      ((Itr lo n).stop i H ∧ D.nx σ H) ∨ ((Itr lo n).go i H ∧ ∃ N : St → Hp → Prop, (∀ σ' H', N σ' H' → ∃ m', m' < m ∧ W (i + 1) m' σ' H') ∧ ∀ x H', (Itr lo n).yld i H x H' → g x σ H' fun σ2 H2 => tb { D with nx := N, ct := N, bk := D.nx } σ2 H2) := by
  refine ⟨fun i m σ H => m = n - i ∧ i ≤ n ∧ Pv i σ H, ⟨n, by simp, Nat.zero_le _, h0⟩, ?_⟩
  rintro i m σ H ⟨rfl, hi, p⟩
  by_cases hlt : i < n
  · refine .inr ⟨hlt, Pv (i + 1), fun σ' H' p' => ⟨n - (i + 1), by omega, rfl, hlt, p'⟩, fun x H' y => ?_⟩
    obtain ⟨e, y⟩ := y
    subst e y
    exact hs i σ _ hlt p
  · have e : i = n := by omega
    subst e
    exact .inl ⟨Nat.le_refl _, hd σ H p⟩
end L2

namespace L2
open PySem PySem.Spec PyProof.Rows

abbrev R2 := V → V → Hp → VK → Prop
/-- a two-place operation on values: f is binaryOp op, inplaceOp op or compareOp op -/
def OpR (X : Cx) (f : Value → Value → Sem Value) (r : R2) : Prop :=
  ∀ (pins : List (Addr × Obj)) (s : Shared) (σ : St) (H : Hp) (x y : V) (v u : Value) (Q : VK), Inv X pins σ H s → RelV x v → RelV y u → r x y H Q →
    wpAny (model X.prog X.w) X.A (f v u) (EP X pins σ Q) X.xe s
/-- a one-place operation -/
def UnR (X : Cx) (f : Value → Sem Value) (r : V → Hp → VK → Prop) : Prop :=
  ∀ (pins : List (Addr × Obj)) (s : Shared) (σ : St) (H : Hp) (x : V) (v : Value) (Q : VK), Inv X pins σ H s → RelV x v → r x H Q →
    wpAny (model X.prog X.w) X.A (f v) (EP X pins σ Q) X.xe s
/-- a call of a value that is known (a builtin, a type) with values -/
def CallR (X : Cx) (f : Value) (r : List V → Hp → VK → Prop) : Prop :=
  ∀ (pins : List (Addr × Obj)) (s : Shared) (σ : St) (H : Hp) (xs : List V) (us : List Value) (Q : VK), Inv X pins σ H s → Vals xs us → r xs H Q →
    wpAny (model X.prog X.w) X.A (call f us) (EP X pins σ Q) X.xe s
/-- a value's truth -/
def TruR (X : Cx) (r : V → Hp → (Bool → Hp → Prop) → Prop) : Prop :=
  ∀ (pins : List (Addr × Obj)) (s : Shared) (σ : St) (H : Hp) (x : V) (v : Value) (Q : Bool → Hp → Prop), Inv X pins σ H s → RelV x v → r x H Q →
    wpAny (model X.prog X.w) X.A (truthy v) (TP X pins σ Q) X.xe s

def tOp (r : R2) (ta tb : TE) : TE := fun σ H Q => ta σ H fun x H1 => tb σ H1 fun y H2 => r x y H2 Q
def tUn (r : V → Hp → VK → Prop) (ta : TE) : TE := fun σ H Q => ta σ H fun x H1 => r x H1 Q
/-- ints in, under C, and a value out -/
def rI (C : Int → Int → Prop) (g : Int → Int → V) : R2 := fun x y H Q => ∃ i j, x = .int i ∧ y = .int j ∧ C i j ∧ Q (g i j) H
def rI0 (g : Int → Int → V) : R2 := fun x y H Q => ∃ i j, x = .int i ∧ y = .int j ∧ Q (g i j) H
def rU (g : Int → V) : V → Hp → VK → Prop := fun x H Q => ∃ i, x = .int i ∧ Q (g i) H

section
variable {X : Cx} {a b c : Expr} {ta tb tc : TE} {pos : Pos}

theorem binT (ha : PE X a ta) (hb : PE X b tb) {pins : List (Addr × Obj)} {s : Shared} {σ : St} {H : Hp} {R : V → V → Hp → Prop} (I : Inv X pins σ H s)
    (h : ta σ H fun x H1 => tb σ H1 fun y H2 => R x y H2) {Q : Value → Shared → Prop} {f : Value → Value → Sem Value}
    (hf : ∀ v u s2 x y H2, Inv X pins σ H2 s2 → RelV x v → RelV y u → R x y H2 → wpAny (model X.prog X.w) X.A (f v u) Q X.xe s2) :
    wpAny (model X.prog X.w) X.A (eval a X.env) (fun v s₁ => wpAny (model X.prog X.w) X.A (eval b X.env) (fun u s₂ => wpAny (model X.prog X.w) X.A (f v u) Q X.xe s₂) X.xe s₁) X.xe s := by
  refine thn (ha pins s σ H _ I h) fun v s1 ⟨x, H1, I1, r1, q1⟩ => ?_
  refine thn (hb pins s1 σ H1 _ I1 q1) fun u s2 ⟨y, H2, I2, r2, q2⟩ => ?_
  exact hf v u s2 x y H2 I2 r1 r2 q2

theorem pe_op {op : Operator} {r : R2} (ho : OpR X (binaryOp op) r) (ha : PE X a ta) (hb : PE X b tb) : PE X (.BinOp a op b pos) (tOp r ta tb) := by
  intro pins s σ H Q I h
  exact wpAny_BinOp (binT ha hb I h fun v u s2 x y H2 I2 rx ry q => ho pins s2 σ H2 x y v u Q I2 rx ry q)
theorem pe_un {op : UnaryOp} {r : V → Hp → VK → Prop} (ho : UnR X (unaryOp op) r) (ha : PE X a ta) : PE X (.UnaryOp op a pos) (tUn r ta) := by
  intro pins s σ H Q I h
  exact UnaryOp_ (thn (ha pins s σ H _ I h) fun v s1 ⟨x, H1, I1, r1, q1⟩ => ho pins s1 σ H1 x v Q I1 r1 q1)
/-! ### ints -/
theorem opI {f : Value → Value → Sem Value} {C : Int → Int → Prop} {g : Int → Int → Int}
    (rule : ∀ (i j : Int) (t u : Tok) (s : Shared) (Q : Value → Shared → Prop) (E : Value → Shared → Prop), C i j → Q (.int (g i j) s.toks) { s with toks := s.toks + 1 } → wpAny (model X.prog X.w) X.A (f (.int i t) (.int j u)) Q E s) :
    OpR X f (rI C fun i j => .int (g i j)) := by
  intro pins s σ H x y v u Q I rx ry h
  obtain ⟨i, j, rfl, rfl, hc, q⟩ := h
  obtain ⟨t, rfl⟩ := rx
  obtain ⟨t', rfl⟩ := ry
  exact rule i j t t' s _ _ hc ⟨.int (g i j), H, I.tok _, ⟨_, rfl⟩, q⟩
theorem opI0 {f : Value → Value → Sem Value} {g : Int → Int → Int}
    (rule : ∀ (i j : Int) (t u : Tok) (s : Shared) (Q : Value → Shared → Prop) (E : Value → Shared → Prop), Q (.int (g i j) s.toks) { s with toks := s.toks + 1 } → wpAny (model X.prog X.w) X.A (f (.int i t) (.int j u)) Q E s) :
    OpR X f (rI0 fun i j => .int (g i j)) := by
  intro pins s σ H x y v u Q I rx ry h
  obtain ⟨i, j, rfl, rfl, q⟩ := h
  obtain ⟨t, rfl⟩ := rx
  obtain ⟨t', rfl⟩ := ry
  exact rule i j t t' s _ _ ⟨.int (g i j), H, I.tok _, ⟨_, rfl⟩, q⟩
theorem opB0 {f : Value → Value → Sem Value} {g : Int → Int → Bool}
    (rule : ∀ (i j : Int) (t u : Tok) (s : Shared) (Q : Value → Shared → Prop) (E : Value → Shared → Prop), Q (.bool (g i j)) s → wpAny (model X.prog X.w) X.A (f (.int i t) (.int j u)) Q E s) :
    OpR X f (rI0 fun i j => .bl (g i j)) := by
  intro pins s σ H x y v u Q I rx ry h
  obtain ⟨i, j, rfl, rfl, q⟩ := h
  obtain ⟨t, rfl⟩ := rx
  obtain ⟨t', rfl⟩ := ry
  exact rule i j t t' s _ _ ⟨.bl (g i j), H, I, rfl, q⟩

def CDiv (i j : Int) : Prop := 0 < j ∧ j < 1073741824
def CDivN (i j : Int) : Prop := j ≠ 0 ∧ j.natAbs < 1073741824
def CPow (i j : Int) : Prop := 0 ≤ j ∧ j ≤ 1000000 ∧ i.natAbs < 2 ^ 64
def CMul (i j : Int) : Prop := (-(2 ^ 64) < i ∧ i < 2 ^ 64) ∨ (-(2 ^ 64) < j ∧ j < 2 ^ 64)
theorem op_add : OpR X (binaryOp .Add) (rI0 fun i j => .int (i + j)) := opI0 fun _ _ _ _ _ _ _ q => add_int q
theorem op_sub : OpR X (binaryOp .Sub) (rI0 fun i j => .int (i - j)) := opI0 fun _ _ _ _ _ _ _ q => sub_int q
/-- % by a positive divisor of any size -/
theorem op_mod : OpR X (binaryOp .Mod) (rI (fun _ j => 0 < j) fun i j => .int (i % j)) := opI fun i j _ _ _ _ _ hc q => by
  have h1 : (0 : Int) < j := hc
  exact mod_int' (by omega) (by rw [Int.fmod_eq_emod_of_nonneg i (by omega)]; exact q)
theorem unI {f : Value → Sem Value} {g : Int → Int}
    (rule : ∀ (i : Int) (t : Tok) (s : Shared) (Q : Value → Shared → Prop) (E : Value → Shared → Prop), Q (.int (g i) s.toks) { s with toks := s.toks + 1 } → wpAny (model X.prog X.w) X.A (f (.int i t)) Q E s) :
    UnR X f (rU fun i => .int (g i)) := by
  intro pins s σ H x v Q I rx h
  obtain ⟨i, rfl, q⟩ := h
  obtain ⟨t, rfl⟩ := rx
  exact rule i t s _ _ ⟨.int (g i), H, I.tok _, ⟨_, rfl⟩, q⟩
theorem un_neg : UnR X (unaryOp .USub) (rU fun i => .int (-i)) := unI fun _ _ _ _ _ q => neg_int q
/-! ### bools among ints: n += (a < b) -/
end

/-! ### comparisons -/
/-- the scalars that == tells apart as data does -/
def scal : V → V → Bool
  | .non, .non => true | .non, .int _ => true | .int _, .non => true | .non, .bl _ => true | .bl _, .non => true | .non, .str _ => true | .str _, .non => true
  | .int _, .int _ => true | .bl _, .bl _ => true | .str _, .str _ => true | .byt _, .byt _ => true
  | .int _, .str _ => true | .str _, .int _ => true | .bl _, .str _ => true | .str _, .bl _ => true
  | _, _ => false
def rEq : R2 := fun x y H Q => scal x y = true ∧ Q (.bl (decide (x = y))) H
def rNe : R2 := fun x y H Q => scal x y = true ∧ Q (.bl (!decide (x = y))) H

theorem dec_int {i j : Int} : decide (V.int i = V.int j) = (i == j) := by
  rw [Bool.eq_iff_iff]
  simp
theorem dec_bl {i j : Bool} : decide (V.bl i = V.bl j) = (i == j) := by
  rw [Bool.eq_iff_iff]
  simp
theorem dec_str {i j : Str} : decide (V.str i = V.str j) = (i == j) := by
  rw [Bool.eq_iff_iff]
  simp
theorem dec_byt {i j : Array UInt8} : decide (V.byt i = V.byt j) = (i.toList == j.toList) := by
  rw [Bool.eq_iff_iff]
  cases i
  cases j
  simp

section
variable {X : Cx} {a b c : Expr} {ta tb tc : TE} {pos : Pos}
theorem fin_bl {pins : List (Addr × Obj)} {σ : St} {H : Hp} {s : Shared} {Q : VK} {k k' : Bool} (I : Inv X pins σ H s) (q : Q (.bl k) H) (e : k = k') : EP X pins σ Q (.bool k') s := by
  subst e
  exact ⟨.bl k, H, I, rfl, q⟩
theorem op_eq : OpR X (compareOp .Eq) rEq := by
  intro pins s σ H x y v u Q I rx ry h
  obtain ⟨hs, q⟩ := h
  cases x with
  | non =>
    cases rx
    cases y with
    | non => cases ry; exact PySem.EqNone.eq_none_none (fin_bl I q (by simp))
    | bl j => cases ry; exact PySem.EqNone.eq_none_bool (fin_bl I q (by simp))
    | int j => obtain ⟨t', rfl⟩ := ry; exact PySem.EqNone.eq_none_int (fin_bl I q (by simp))
    | str j => obtain ⟨t', rfl⟩ := ry; exact PySem.EqNone.eq_none_str (fin_bl I q (by simp))
    | _ => exact absurd (show false = true from hs) Bool.false_ne_true
  | bl i =>
    cases rx
    cases y with
    | non => cases ry; exact PySem.EqNone.eq_bool_none (fin_bl I q (by simp))
    | bl j => cases ry; exact eq_bool (fin_bl I q dec_bl)
    | str j => obtain ⟨t', rfl⟩ := ry; exact PySem.EqMixed.eq_bool_str (fin_bl I q (by simp))
    | _ => exact absurd (show false = true from hs) Bool.false_ne_true
  | int i =>
    obtain ⟨t, rfl⟩ := rx
    cases y with
    | non => cases ry; exact PySem.EqNone.eq_int_none (fin_bl I q (by simp))
    | int j => obtain ⟨t', rfl⟩ := ry; exact eq_int (fin_bl I q dec_int)
    | str j => obtain ⟨t', rfl⟩ := ry; exact PySem.EqMixed.eq_int_str (fin_bl I q (by simp))
    | _ => exact absurd (show false = true from hs) Bool.false_ne_true
  | str i =>
    obtain ⟨t, rfl⟩ := rx
    cases y with
    | non => cases ry; exact PySem.EqNone.eq_str_none (fin_bl I q (by simp))
    | bl j => cases ry; exact PySem.EqMixed.eq_str_bool (fin_bl I q (by simp))
    | int j => obtain ⟨t', rfl⟩ := ry; exact PySem.EqMixed.eq_str_int (fin_bl I q (by simp))
    | str j => obtain ⟨t', rfl⟩ := ry; exact eq_str (fin_bl I q dec_str)
    | _ => exact absurd (show false = true from hs) Bool.false_ne_true
  | byt i =>
    obtain ⟨t, rfl⟩ := rx
    cases y with
    | byt j => obtain ⟨t', rfl⟩ := ry; exact PySem.W.eq_bytes (fin_bl I q dec_byt)
    | _ => exact absurd (show false = true from hs) Bool.false_ne_true
  | _ => cases y <;> exact absurd (show false = true from hs) Bool.false_ne_true
theorem op_ne : OpR X (compareOp .NotEq) rNe := by
  intro pins s σ H x y v u Q I rx ry h
  obtain ⟨hs, q⟩ := h
  cases x with
  | non =>
    cases rx
    cases y with
    | non => cases ry; exact PySem.EqNone.ne_none_none (fin_bl I q (by simp))
    | bl j => cases ry; exact PySem.EqNone.ne_none_bool (fin_bl I q (by simp))
    | int j => obtain ⟨t', rfl⟩ := ry; exact PySem.EqNone.ne_none_int (fin_bl I q (by simp))
    | str j => obtain ⟨t', rfl⟩ := ry; exact PySem.EqNone.ne_none_str (fin_bl I q (by simp))
    | _ => exact absurd (show false = true from hs) Bool.false_ne_true
  | bl i =>
    cases rx
    cases y with
    | non => cases ry; exact PySem.EqNone.ne_bool_none (fin_bl I q (by simp))
    | bl j => cases ry; exact ne_bool (fin_bl I q (congrArg not dec_bl))
    | str j => obtain ⟨t', rfl⟩ := ry; exact PySem.EqMixed.ne_bool_str (fin_bl I q (by simp))
    | _ => exact absurd (show false = true from hs) Bool.false_ne_true
  | int i =>
    obtain ⟨t, rfl⟩ := rx
    cases y with
    | non => cases ry; exact PySem.EqNone.ne_int_none (fin_bl I q (by simp))
    | int j => obtain ⟨t', rfl⟩ := ry; exact ne_int (fin_bl I q (congrArg not dec_int))
    | str j => obtain ⟨t', rfl⟩ := ry; exact PySem.EqMixed.ne_int_str (fin_bl I q (by simp))
    | _ => exact absurd (show false = true from hs) Bool.false_ne_true
  | str i =>
    obtain ⟨t, rfl⟩ := rx
    cases y with
    | non => cases ry; exact PySem.EqNone.ne_str_none (fin_bl I q (by simp))
    | bl j => cases ry; exact PySem.EqMixed.ne_str_bool (fin_bl I q (by simp))
    | int j => obtain ⟨t', rfl⟩ := ry; exact PySem.EqMixed.ne_str_int (fin_bl I q (by simp))
    | str j => obtain ⟨t', rfl⟩ := ry; exact ne_str (fin_bl I q (congrArg not dec_str))
    | _ => exact absurd (show false = true from hs) Bool.false_ne_true
  | byt i =>
    obtain ⟨t, rfl⟩ := rx
    cases y with
    | byt j => obtain ⟨t', rfl⟩ := ry; exact PySem.W.ne_bytes (fin_bl I q (congrArg not dec_byt))
    | _ => exact absurd (show false = true from hs) Bool.false_ne_true
  | _ => cases y <;> exact absurd (show false = true from hs) Bool.false_ne_true

theorem op_lt : OpR X (compareOp .Lt) (rI0 fun i j => .bl (decide (i < j))) := opB0 fun _ _ _ _ _ _ _ q => lt_int q
theorem op_le : OpR X (compareOp .LtE) (rI0 fun i j => .bl (decide (i ≤ j))) := opB0 fun _ _ _ _ _ _ _ q => le_int q
theorem op_gt : OpR X (compareOp .Gt) (rI0 fun i j => .bl (decide (j < i))) := opB0 fun _ _ _ _ _ _ _ q => gt_int q
theorem op_ge : OpR X (compareOp .GtE) (rI0 fun i j => .bl (decide (j ≤ i))) := opB0 fun _ _ _ _ _ _ _ q => ge_int q
/-- is, is not of two objects that are tracked lists or instances -/
def isObj : HO → Bool
  | .lst _ => true
  | .ins _ _ _ => true
  | _ => false
theorem nomark (b : Expr) {op : CmpOp} (h : op ≠ .In := by decide) (h2 : op ≠ .NotIn := by decide) : behindInMarks op b = false := by
  have e1 : (op == CmpOp.In) = false := by cases op <;> first | rfl | exact absurd rfl h
  have e2 : (op == CmpOp.NotIn) = false := by cases op <;> first | rfl | exact absurd rfl h2
  cases b <;> simp [behindInMarks, e1, e2]
/-- a comparison as a value; hm: nomark b, or (for in, not in) by with_unfolding_all rfl -/
theorem pe_cmpR {op : CmpOp} {r : R2} (ho : OpR X (compareOp op) r) (ha : PE X a ta) (hb : PE X b tb) (hm : behindInMarks op b = false) : PE X (.Compare a [op] [b] pos) (tOp r ta tb) := by
  intro pins s σ H Q I h
  exact wpAny_Compare1 (binT ha hb I h fun v u s2 x y H2 I2 rx ry q => ho pins s2 σ H2 x y v u Q I2 rx ry q) hm
/-- a reading of a value as a test -/
def tTest (t : TE) : TT := fun σ H Q => t σ H fun x H' => ∃ k, x = .bl k ∧ Q k H'
theorem pt_cmpR {op : CmpOp} {r : R2} (ho : OpR X (compareOp op) r) (ha : PE X a ta) (hb : PE X b tb) (hm : behindInMarks op b = false) : PT X (.Compare a [op] [b] pos) (tTest (tOp r ta tb)) := by
  intro pins s σ H Q I h
  refine wpAny_isTrue_Compare1 (thn (ha pins s σ H _ I h) fun v s1 ⟨x, H1, I1, r1, q1⟩ => thn (hb pins s1 σ H1 _ I1 q1) fun u s2 ⟨y, H2, I2, r2, q2⟩ =>
    thn (ho pins s2 σ H2 x y v u _ I2 r1 r2 q2) fun c s3 ⟨z, H3, I3, r3, k, e, q3⟩ => ?_) hm
  subst e
  cases r3
  exact wpAny_truthy_bool ⟨H3, I3, q3⟩
/-- a op1 b op2 c -/
def tChain (r r' : R2) (ta tb tc : TE) : TE := fun σ H Q => ta σ H fun x H1 => tb σ H1 fun y H2 => r x y H2 fun z H3 => ∃ k, z = .bl k ∧
  (if k = true then tc σ H3 fun w' H4 => r' y w' H4 Q else Q (.bl false) H3)
theorem pe_chain {op op' : CmpOp} {r r' : R2} (ho : OpR X (compareOp op) r) (ho' : OpR X (compareOp op') r') (ha : PE X a ta) (hb : PE X b tb) (hc : PE X c tc)
    (hm : lastMarks [op, op'] [b, c] = false := by with_unfolding_all rfl) : PE X (.Compare a [op, op'] [b, c] pos) (tChain r r' ta tb tc) := by
  intro pins s σ H Q I h
  refine Compare_chain (thn (ha pins s σ H _ I h) fun v s1 ⟨x, H1, I1, r1, q1⟩ => chain_link (thn (hb pins s1 σ H1 _ I1 q1) fun u s2 ⟨y, H2, I2, r2, q2⟩ =>
    thn (ho pins s2 σ H2 x y v u _ I2 r1 r2 q2) fun d s3 ⟨z, H3, I3, r3, k, e, q3⟩ => ?_)) hm
  subst e
  cases r3
  refine wpAny_truthy_bool ?_
  cases k with
  | false => exact ite_ff ⟨.bl false, H3, I3, rfl, q3⟩
  | true => exact ite_tt (chain_last (thn (hc pins s3 σ H3 _ I3 q3) fun w' s4 ⟨z', H4, I4, r4, q4⟩ => ho' pins s4 σ H4 y z' u w' Q I4 r2 r4 q4))
theorem pt_chain {op op' : CmpOp} {r r' : R2} (ho : OpR X (compareOp op) r) (ho' : OpR X (compareOp op') r') (ha : PE X a ta) (hb : PE X b tb) (hc : PE X c tc)
    (hm : lastMarks [op, op'] [b, c] = false := by with_unfolding_all rfl) : PT X (.Compare a [op, op'] [b, c] pos) (tTest (tChain r r' ta tb tc)) := by
  intro pins s σ H Q I h
  refine isTrue_chain (thn (ha pins s σ H _ I h) fun v s1 ⟨x, H1, I1, r1, q1⟩ => test_link (thn (hb pins s1 σ H1 _ I1 q1) fun u s2 ⟨y, H2, I2, r2, q2⟩ =>
    thn (ho pins s2 σ H2 x y v u _ I2 r1 r2 q2) fun d s3 ⟨z, H3, I3, r3, k, e, q3⟩ => ?_)) hm
  subst e
  cases r3
  refine wpAny_truthy_bool ?_
  cases k with
  | false =>
    obtain ⟨k', e', q'⟩ := q3
    cases e'
    exact ite_ff ⟨H3, I3, q'⟩
  | true =>
    refine ite_tt (test_last (thn (hc pins s3 σ H3 _ I3 q3) fun w' s4 ⟨z', H4, I4, r4, q4⟩ => thn (ho' pins s4 σ H4 y z' u w' _ I4 r2 r4 q4) fun d' s5 ⟨z2, H5, I5, r5, k2, e2, q5⟩ => ?_))
    subst e2
    cases r5
    exact wpAny_truthy_bool ⟨H5, I5, q5⟩

/-! ### truth -/
/-- a value's truth by the abstract heap -/
def TruV (K : PySem.W.Frag) (x : V) (H : Hp) (k : Bool) : Prop :=
  match x with
  | .non => k = false
  | .bl b => k = b
  | .int i => k = (i != 0)
  | .str y => y.length ≤ sizeLine ∧ k = ((y.length : Int) != 0)
  | .byt y => y.size ≤ sizeLine ∧ k = ((y.size : Int) != 0)
  | .ref p => (∃ xs, SqL K H p xs ∧ k = !xs.isEmpty) ∨ (∃ xs, SqT K H p xs ∧ k = !xs.isEmpty) ∨ ∃ kvs, H p = some (.dK kvs) ∧ k = !kvs.isEmpty
  | _ => False
theorem line63 : (sizeLine : Nat) < 2 ^ 63 := by rw [sizeLine_eq]; decide
/-! ### strs and bytes -/
theorem op_add_str : OpR X (binaryOp .Add) (fun x y H Q => ∃ i j, x = .str i ∧ y = .str j ∧ i.length + j.length ≤ sizeLine ∧ Q (.str (i ++ j)) H) := by
  intro pins s σ H x y v u Q I rx ry h
  obtain ⟨i, j, rfl, rfl, hz, q⟩ := h
  obtain ⟨t, rfl⟩ := rx
  obtain ⟨t', rfl⟩ := ry
  exact add_str (fun t' tk => ⟨.str (i ++ j), H, I.tok _, ⟨_, rfl⟩, q⟩) hz
def PlainIxT (b : Expr) : Prop := ∀ o i, subscripted b false o i = operate [o, i] (getItem o i)
/-! ### scalar builtins, by CallR -/
theorem vals1 {x : V} {us : List Value} (r : Vals [x] us) : ∃ u, us = [u] ∧ RelV x u := by
  cases r with
  | cons r1 r2 => cases r2; exact ⟨_, rfl, r1⟩
theorem vals2 {x y : V} {us : List Value} (r : Vals [x, y] us) : ∃ u w', us = [u, w'] ∧ RelV x u ∧ RelV y w' := by
  cases r with
  | cons r1 r2 =>
    cases r2 with
    | cons r3 r4 => cases r4; exact ⟨_, _, rfl, r1, r3⟩
theorem call_abs : CallR X (.builtin "abs") (fun xs H Q => ∃ i, xs = [.int i] ∧ Q (.int (if i < 0 then -i else i)) H) := by
  intro pins s σ H xs us Q I r h
  obtain ⟨i, rfl, q⟩ := h
  obtain ⟨u, rfl, t, rfl⟩ := vals1 r
  exact call_abs_int fun u tk => ⟨.int (if i < 0 then -i else i), H, I.tok _, ⟨_, rfl⟩, q⟩
theorem call_min2 (hc : X.calm = true) : CallR X (.builtin "min") (fun xs H Q => ∃ i j, xs = [.int i, .int j] ∧ Q (.int (if j < i then j else i)) H) := by
  intro pins s σ H xs us Q I r h
  obtain ⟨i, j, rfl, q⟩ := h
  obtain ⟨u, w', rfl, ⟨t, rfl⟩, ⟨t', rfl⟩⟩ := vals2 r
  refine min_two_ints (I.ok.hd hc) fun h' tk k => ⟨_, H, I.kept k, ?_, q⟩
  by_cases hj : j < i
  · rw [if_pos hj, if_pos hj]; exact ⟨_, rfl⟩
  · rw [if_neg hj, if_neg hj]; exact ⟨_, rfl⟩
/-- len of a str, a bytes, a list, a tuple -/
def LenV (K : PySem.W.Frag) (x : V) (H : Hp) (n : Nat) : Prop :=
  match x with
  | .str y => y.length ≤ sizeLine ∧ n = y.length
  | .byt y => y.size ≤ sizeLine ∧ n = y.size
  | .ref p => (∃ xs, SqL K H p xs ∧ n = xs.length) ∨ ∃ xs, SqT K H p xs ∧ n = xs.length
  | _ => False
end
end L2

namespace L2
open PySem PySem.Spec PyProof.Rows

/-! ### an instance, its attributes a map -/
structure ObjM (h : Heap) (x dx C : Addr) (mA : Str → Option Value) : Prop where
  obj : h.get? x = some (PySem.W.instObj C dx)
  ns : h.Ns1 dx mA
  ne : dx ≠ x

section
variable {prog : Program} {w : World} {A : Around} {E : Value → Shared → Prop} {s : Shared} {K : PySem.W.Frag} {x dx C f : Addr} {mA : Str → Option Value} {name : Str} {v : Value}

end

/-! ### the attributes as a list of pairs -/
def putF (f : Str) (v : V) : List (Str × V) → List (Str × V)
  | [] => [(f, v)]
  | (g, x) :: r => if g = f then (g, v) :: r else (g, x) :: putF f v r
theorem RelO.some_of {v : V} {o : Option Value} (r : RelO (some v) o) : ∃ u, o = some u ∧ RelV v u := by
  cases o with
  | none => exact (show False from r).elim
  | some u => exact ⟨u, rfl, r⟩
section
variable {P : Program} {w : World} {H H' : Hp} {h h' : Heap} {a C dx : Addr} {fs fs' : List (Str × V)}
end

/-! ### what of the text a class must have -/
structure Cls (K : PySem.W.Frag) (C : Addr) : Prop where
  pg : PySem.W.plainGet K C Str.empty = true
  hd : PySem.W.hasDictIn K C = true
  po : PySem.W.plainOver K C = true
  sa : PySem.W.findIn K (.ref C) "__setattr__" = some (some (.builtin "object.__setattr__"))
/-- no class of it has the name -/
def NoAttr (K : PySem.W.Frag) (C : Addr) (f : Str) : Prop := PySem.W.findIn K (.ref C) f = some none
/-- a constant of the class -/
structure Con (K : PySem.W.Frag) (C : Addr) (f : Str) (v : V) (u : Value) : Prop where
  at_ : PySem.W.findIn K (.ref C) f = some (some u)
  rel : RelV v u
  get : PySem.W.specialIn K u "__get__" = some none
  cp : PySem.W.copiedNames.contains f = false
/-- a method: a plain def of the class or of one above it -/
structure Meth (K : PySem.W.Frag) (C : Addr) (m : Str) (f : Addr) : Prop where
  at_ : PySem.W.findIn K (.ref C) m = some (some (.ref f))
  fn : PySem.W.isFn K (.ref f) = true
  kp : PySem.W.keepIn K (.ref f) = true

section
variable {X : Cx} {pins : List (Addr × Obj)} {σ : St} {H : Hp} {s : Shared} {a C dx : Addr} {fs : List (Str × V)} {f : Str} {v : V} {A : Around} {E : Value → Shared → Prop}

end

/-! ### readings and rules -/
/-- e.f, an attribute of the instance -/
def tFld (K : PySem.W.Frag) (ta : TE) (f : Str) : TE := fun σ H Q => ta σ H fun x H1 => ∃ a C dx fs v, x = .ref a ∧ H1 a = some (.ins C dx fs) ∧ Cls K C ∧ NoAttr K C f ∧ fs.lookup f = some v ∧ Q v H1
/-- e.f, a constant of the class -/
def tCon (K : PySem.W.Frag) (ta : TE) (f : Str) : TE := fun σ H Q => ta σ H fun x H1 => ∃ a C dx fs v u, x = .ref a ∧ H1 a = some (.ins C dx fs) ∧ Cls K C ∧ Con K C f v u ∧ fs.lookup f = none ∧ Q v H1
/-- e.f = value -/
def sFld (K : PySem.W.Frag) (ta tv : TE) (f : Str) : TS := fun D σ H => tv σ H fun y H1 => ta σ H1 fun x H2 => ∃ a C dx fs, x = .ref a ∧ H2 a = some (.ins C dx fs) ∧ Cls K C ∧ NoAttr K C f ∧ fs.length < 1000 ∧
  D.nx σ (upd H2 a (.ins C dx (putF f y fs)))
/-- an augmented operator on two values -/
def InOp (X : Cx) (op : Operator) (rd : V → V → Hp → VK → Prop) : Prop :=
  ∀ (pins : List (Addr × Obj)) (s : Shared) (σ : St) (H : Hp) (x y : V) (u v : Value) (Q : VK), Inv X pins σ H s → RelV x u → RelV y v → rd x y H Q → wpAny (model X.prog X.w) X.A (inplaceOp op u v) (EP X pins σ Q) X.xe s
/-- e.f op= value -/
def sFldAug (K : PySem.W.Frag) (ta tv : TE) (rd : V → V → Hp → VK → Prop) (f : Str) : TS := fun D σ H => ta σ H fun x H1 => ∃ a C dx fs v, x = .ref a ∧ H1 a = some (.ins C dx fs) ∧ Cls K C ∧ NoAttr K C f ∧ fs.lookup f = some v ∧
  tv σ H1 fun y H2 => rd v y H2 fun z H3 => ∃ dx' fs', H3 a = some (.ins C dx' fs') ∧ fs'.length < 1000 ∧ D.nx σ (upd H3 a (.ins C dx' (putF f z fs')))

section
variable {X : Cx} {o e value : Expr} {f : Str} {pos pos' tpos : Pos} {ta tv : TE}
def rAdd : V → V → Hp → VK → Prop := fun x y H Q => ∃ i j, x = .int i ∧ y = .int j ∧ Q (.int (i + j)) H
def rSub : V → V → Hp → VK → Prop := fun x y H Q => ∃ i j, x = .int i ∧ y = .int j ∧ Q (.int (i - j)) H
theorem in_sub : InOp X .Sub rSub := by
  rintro pins s σ H x y u v Q I rx ry ⟨i, j, rfl, rfl, q⟩
  obtain ⟨t, rfl⟩ := (show ∃ t, u = Value.int i t from rx)
  obtain ⟨t', rfl⟩ := (show ∃ t', v = Value.int j t' from ry)
  exact PyProof.Rows.isub_int ⟨.int (i - j), H, I.tok _, ⟨_, rfl⟩, q⟩

end

/-! ### isinstance -/
section
variable {X : Cx} {pins : List (Addr × Obj)} {σ : St} {H : Hp} {s : Shared} {A : Around} {E : Value → Shared → Prop} {Q : Value → Shared → Prop} {c : Value} {b : Bool}
/-- the type of a value, as the fragment's deciders take it; for an instance its class -/
inductive TyOf (K : PySem.W.Frag) (H : Hp) : V → Value → Prop where
  | non : TyOf K H .non (.type "NoneType")
  | bl (x : Bool) : TyOf K H (.bl x) (.type "bool")
  | int (i : Int) : TyOf K H (.int i) (.type "int")
  | str (x : Str) : TyOf K H (.str x) (.type "str")
  | flt (x : UInt64) : TyOf K H (.flt x) (.type "float")
  | lst {a : Addr} {xs : List V} (e : H a = some (.lst xs)) : TyOf K H (.ref a) (.type "list")
  | frz {a : Addr} {o : Obj} {xs : List V} (e : H a = some (.frz o (.lst xs))) : TyOf K H (.ref a) (.type "list")
  | tup {a : Addr} {xs : List V} (e : H a = some (.tup xs)) : TyOf K H (.ref a) (.type "tuple")
  | dK {a : Addr} {kvs : List (Key × V)} (e : H a = some (.dK kvs)) : TyOf K H (.ref a) (.type "dict")
  | dT {a : Addr} {kvs : List (List Key × V)} (e : H a = some (.dT kvs)) : TyOf K H (.ref a) (.type "dict")
  | ins {a C dx : Addr} {fs : List (Str × V)} (e : H a = some (.ins C dx fs)) (cl : Cls K C) (ha : PySem.W.findIn K (.ref C) "__class__" = some (some (.builtin "object.__class__")))
      (hn : PySem.W.specialIn K (.builtin "object.__class__") "__get__" = some (some (.builtin "getset_descriptor.__get__"))) (htk : PySem.W.takesIn K (.builtin "object.__class__") = some true)
      (hm : PySem.W.mroIn K C (.type "object") = some true) : TyOf K H (.ref a) (.ref C)
end
end L2

namespace L2
open PySem PySem.Spec PyProof.Rows

/-! ### room -/
structure Room (k : Nat) (A : Around) : Prop where
  hd : A.handled = none
  dp : A.depth + 3 * k + 5 < recursionLimit
  un : A.units + 16 * k + 200 < cLine
theorem Room.mono {j k : Nat} {A : Around} (r : Room k A) (h : j ≤ k) : Room j A := ⟨r.hd, by have := r.dp; omega, by have := r.un; omega⟩
theorem Room.deeper {k : Nat} {A : Around} (r : Room (k + 1) A) (env : Env) : Room k (A.deeper env) :=
  ⟨r.hd, by have := r.dp; show A.depth + 1 + 3 * k + 5 < _; omega, by have := r.un; show A.units + 3 + 16 * k + 200 < _; omega⟩
theorem Room.depth {k : Nat} {A : Around} (r : Room k A) : A.depth < recursionLimit := by have := r.dp; omega
theorem Room.units {k : Nat} {A : Around} (r : Room k A) : A.units + 64 < cLine := by have := r.un; omega
/-! ### argument lists and displays -/
def tNil : TA := fun _ H Q => Q [] H
def tCons (ta : TE) (tr : TA) : TA := fun σ H Q => ta σ H fun x H1 => tr σ H1 fun xs H2 => Q (x :: xs) H2
section
variable {X : Cx} {e : Expr} {es : List Expr} {te : TE} {t : TA} {pos : Pos}
theorem pa_nil : PA X [] tNil := fun _ _ _ _ H Q I h => Calls.spliced_nil ⟨[], H, I, .nil, h⟩
theorem pa_cons (ha : PE X e te) (hr : PA X es t) (hs : starEach (e :: es) X.env = (false, eval e X.env) :: starEach es X.env := by rfl) : PA X (e :: es) (tCons te t) := by
  intro pos pins s σ H Q I h
  rw [hs]
  show wpAny _ _ (spliced ((false, eval e X.env) :: backTo pos (starEach es X.env))) _ _ s
  refine Calls.spliced_cons (thn (ha pins s σ H _ I h) fun u s1 ⟨x, H1, I1, r1, q1⟩ => ?_)
  exact thn (hr pos pins s1 σ H1 _ I1 q1) fun us s2 ⟨xs, H2, I2, r2, q2⟩ => ⟨x :: xs, H2, I2, .cons r1 r2, q2⟩

/-- a tuple, a list of written items -/
def tTup (t : TA) : TE := fun σ H Q => t σ H fun xs H1 => xs.length ≤ sizeLine ∧ ∀ p, H1 p = none → Q (.ref p) (upd H1 p (.tup xs))
def tLst (t : TA) : TE := fun σ H Q => t σ H fun xs H1 => xs.length ≤ sizeLine ∧ ∀ p, H1 p = none → Q (.ref p) (upd H1 p (.lst xs))
theorem pe_tup {x1} (h : PA X es t) : PE X (.Tuple es x1 pos) (tTup t) := by
  intro pins s σ H Q I hq
  refine wpAny_Tuple_spliced (thn (h pos pins s σ H _ I hq) fun us s1 ⟨xs, H1, I1, r, z, q⟩ => ⟨by rw [← r.length]; exact z, ?_⟩)
  have hf : H1 s1.heap.objs.size = none := I1.hok.fresh (Nat.le_refl _)
  refine ⟨.ref s1.heap.objs.size, upd H1 s1.heap.objs.size (.tup xs), I1.laid (t' := s1.toks) (fun b u e => Heap.get?_push_of_some _ e) (Nat.le_refl _) ?_, rfl, q _ hf⟩
  exact ⟨z, us, r, ⟨_, Heap.get?_push_size _ rfl, rfl, _, rfl⟩⟩
theorem pe_lst (h : PA X es t) : PE X (.List es pos) (tLst t) := by
  intro pins s σ H Q I hq
  refine wpAny_List_spliced (thn (h pos pins s σ H _ I hq) fun us s1 ⟨xs, H1, I1, r, z, q⟩ => ⟨by rw [← r.length]; exact z, ?_⟩)
  have hf : H1 s1.heap.objs.size = none := I1.hok.fresh (Nat.le_refl _)
  refine ⟨.ref s1.heap.objs.size, upd H1 s1.heap.objs.size (.lst xs), I1.laid (t' := s1.toks) (fun b u e => Heap.get?_push_of_some _ e) (Nat.le_refl _) ?_, rfl, q _ hf⟩
  exact ⟨z, us, 0, r, Heap.get?_push_size _ rfl⟩
end

/-! ### what a def promises -/
/-- a def's promise: the bound arguments in the parameters' order, the heap, the wanted end, the wanted exception -/
abbrev Sp := List V → Hp → VK → XK → Prop
/-- how an exception lies behind a call (file 08 gives it): the callers' frames, abstract heap and state ahead of the call, the wish, the exception, the state -/
abbrev CXT := List Env → Hp → Shared → XK → Value → Shared → Prop

/-- the state at a call -/
structure Env0 (P : Program) (w : World) (K : PySem.W.Frag) (mg : Str → Option Value) (base : Heap) (A : Around) (outer : List Env) (s : Shared) (H : Hp) : Prop where
  frames : A.frames = some outer
  mod : Mod K mg base
  bs : ∀ b o, base.get? b = some o → s.heap.get? b = some o ∧ H b = none
  bsz : base.objs.size ≤ s.heap.objs.size
  funs : s.heap.FunFrames base outer
  frf : ∀ b ∈ frs outer, H b = none
  hok : HOk P w H s.heap
  bare : AllBare s.gens
/-- a call's end -/
def CE (outer : List Env) (P : Program) (w : World) (H : Hp) (s : Shared) (Q : VK) (u : Value) (s' : Shared) : Prop :=
  ∃ v H', s'.os = s.os ∧ AllBare s'.gens ∧ Un (frs outer) [] H H' s.heap s'.heap ∧ HOk P w H' s'.heap ∧ RelV v u ∧ Q v H'
def CR (CX : CXT) (outer : List Env) (P : Program) (w : World) (H : Hp) (s : Shared) (Q : VK) (E : XK) (r : Result) (s' : Shared) : Prop :=
  match r with
  | .ok (.ret u) => CE outer P w H s Q u s'
  | .ok _ => False
  | .error e => CX outer H s E e s'
structure FnOk (P : Program) (w : World) (K : PySem.W.Frag) (mg : Str → Option Value) (base : Heap) (CX : CXT) (k : Nat) (f : Addr) (fd : FuncData) (ps : List Str) (sp : Sp) : Prop where
  len : ∀ vs H Q E, sp vs H Q E → vs.length = ps.length
  run : ∀ (A : Around) (outer : List Env) (s : Shared) (H : Hp) (args : Args) (us : List Value) (vs : List V) (Q : VK) (E : XK), Room k A → Env0 P w K mg base A outer s H → BindsTo s fd args (ps.zip us) → Vals vs us → sp vs H Q E →
    codeAny (model P w) A (.call (.ref f) args) (CR CX outer P w H s Q E) s
theorem FnOk.mono {P : Program} {w : World} {K : PySem.W.Frag} {mg : Str → Option Value} {base : Heap} {CX : CXT} {j k : Nat} {f : Addr} {fd : FuncData} {ps : List Str} {sp : Sp} (F : FnOk P w K mg base CX j f fd ps sp) (h : j ≤ k) :
    FnOk P w K mg base CX k f fd ps sp := ⟨F.len, fun A outer s H args us vs Q E hr => F.run A outer s H args us vs Q E (hr.mono h)⟩
section
variable {X : Cx} {pins : List (Addr × Obj)} {σ : St} {H : Hp} {s s' : Shared}
/-- from a body: what a callee wants -/
theorem Inv.env0 (I : Inv X pins σ H s) : Env0 X.prog X.w X.K X.mg X.base X.A X.stack s H :=
  ⟨I.ok.frames, I.ok.mod, I.bs, Nat.le_trans I.ok.bsz I.sz, I.stack, I.stkFree, I.hok, I.bare⟩
/-- behind a call -/
theorem Inv.after {Q : VK} {u : Value} (I : Inv X pins σ H s) (h : CE X.stack X.prog X.w H s Q u s') : EP X pins σ Q u s' := by
  obtain ⟨v, H', os, bare, un, hok, r, q⟩ := h
  obtain ⟨hh, g, d, t, os'⟩ := s'
  obtain rfl : os' = s.os := os
  exact ⟨v, H', I.call (h' := hh) (g' := g) (d' := d) (t' := t) (ch := []) un hok bare (fun b z => absurd z (by simp)), r, q⟩
end

/-! ### calls -/
/-- f(..): the written arguments, then the defaults dvs; E: what is wanted of an exception -/
def tCall (sp : Sp) (dvs : List V) (E : XK) (t : TA) : TE := fun σ H Q => t σ H fun vs H1 => sp (vs ++ dvs) H1 Q E
/-- o.m(..) of an instance of the class at C -/
def tMeth (C : Addr) (m : Str) (sp : Sp) (dvs : List V) (E : XK) (ta : TE) (t : TA) : TE := fun σ H Q => ta σ H fun x H1 => ∃ a dx fs, x = .ref a ∧ H1 a = some (.ins C dx fs) ∧ fs.lookup m = none ∧
  t σ H1 fun vs H2 => sp (x :: (vs ++ dvs)) H2 Q E
/-- C(..): a new instance and its dict, then __init__ -/
def tMake (C : Addr) (sp : Sp) (dvs : List V) (E : XK) (t : TA) : TE := fun σ H Q => t σ H fun vs H1 => ∀ x dx, H1 x = none → H1 dx = none → dx ≠ x →
  sp (.ref x :: (vs ++ dvs)) (upd (upd H1 dx (.own x)) x (.ins C dx [])) (fun v H2 => v = .non ∧ Q (.ref x) H2) E

/-- how the parameters are bound: us the positional arguments, kw the keywords' values by name, ds the defaults that fill up -/
def Binds (K : PySem.W.Frag) (fd : FuncData) (ps : List Str) (ds : List Value) : Prop :=
  ∀ (s : Shared) (us : List Value), K.In s.heap → (us ++ ds).length = ps.length → BindsTo s fd ⟨us, []⟩ (ps.zip (us ++ ds))
/-- every parameter is given -/
theorem Binds.all {K : PySem.W.Frag} {fd : FuncData} {ps : List Str} (h : ∀ us : List Value, us.length = ps.length → bindArgs fd ⟨us, []⟩ = pure (ps.zip us)) : Binds K fd ps [] := fun s us _ hl => by
  rw [List.append_nil] at hl ⊢
  exact .of_eq (h us hl)

/-- an exception of a callee reaches what this body wants of exceptions -/
def Passes (CX : CXT) (X : Cx) (E : XK) : Prop := ∀ (pins : List (Addr × Obj)) (σ : St) (H : Hp) (s : Shared) (e : Value) (s' : Shared), Inv X pins σ H s → CX X.stack H s E e s' → X.xe e s'

section
variable {X : Cx} {CX : CXT} {k : Nat} {f C : Addr} {fd : FuncData} {ps : List Str} {sp : Sp} {dvs : List V} {ds : List Value} {E : XK} {x m : Str} {p pos apos : Pos} {e o : Expr} {es : List Expr} {ta : TE} {t : TA}

/-- the callee runs -/
theorem run_fn {pins : List (Addr × Obj)} {σ : St} {H : Hp} {s : Shared} {Q : VK} {us : List Value} {vs : List V} (F : FnOk X.prog X.w X.K X.mg X.base CX k f fd ps sp) (hr : Room k X.A) (hb : Binds X.K fd ps ds) (hd : Vals dvs ds) (hx : Passes CX X E)
    (I : Inv X pins σ H s) (r : Vals vs us) (h : sp (vs ++ dvs) H Q E) : wpAny (model X.prog X.w) X.A (call (.ref f) us) (EP X pins σ Q) X.xe s := by
  have r2 : Vals (vs ++ dvs) (us ++ ds) := r.append hd
  have hl : (us ++ ds).length = ps.length := by rw [← r2.length]; exact F.len _ _ _ _ h
  refine wpAny_call (codeAny_mono (F.run X.A X.stack s H ⟨us, []⟩ (us ++ ds) (vs ++ dvs) Q E hr I.env0 (hb s us I.kIn hl) r2 h) fun r s' hq => ?_)
  cases r with
  | error e => exact hx pins σ H s e s' I hq
  | ok fl =>
    cases fl with
    | ret u => exact I.after hq
    | next => exact False.elim hq
    | brk => exact False.elim hq
    | cont => exact False.elim hq

theorem pe_call (F : FnOk X.prog X.w X.K X.mg X.base CX k f fd ps sp) (hr : Room k X.A) (hg : Gl X x) (hm : X.mg x = some (.ref f)) (hk : PySem.W.keepIn X.K (.ref f) = true) (hb : Binds X.K fd ps ds) (hd : Vals dvs ds) (hx : Passes CX X E)
    (ha : PA X (e :: es) t) (hdb : (x == ("__debug__" : Str)) = false := by decide) (he : starEach (e :: es) X.env = (false, eval e X.env) :: starEach es X.env := by rfl) (hpl : (backTo pos (starEach es X.env)).any (·.1) = false := by rfl) :
    PE X (.Call (.Name x p) (e :: es) [] pos) (tCall sp dvs E t) := by
  intro pins s σ H Q I h
  refine wpAny_Call_Name_kw (ld_glob I hg hm ?_ hdb)
  refine PySem.W.callWith_K (h₀ := X.base) I.ok.mod.kin hk (thn (ha pos pins s σ H _ I h) fun us s1 ⟨vs, H1, I1, r, q⟩ => ⟨I1.kIn, ?_⟩) he hpl
  exact run_fn F hr hb hd hx I1 r q
/-- what a class must have to be made -/
structure Mk (K : PySem.W.Frag) (C f : Addr) : Prop where
  makes : PySem.W.makesIn K C = true
  init : PySem.W.findIn K (.ref C) "__init__" = some (some (.ref f))
  fn : PySem.W.isFn K (.ref f) = true
  kp : PySem.W.keepIn K (.ref C) = true

end

/-! ### keywords -/
/-- the values of the keywords, from the left -/
def PK (X : Cx) (kws : List Keyword) (t : TA) : Prop :=
  ∀ (pos : Pos) (pins : List (Addr × Obj)) (s : Shared) (σ : St) (H : Hp) (Q : List V → Hp → Prop), Inv X pins σ H s → t σ H Q → wpAny (model X.prog X.w) X.A (evalAll ((backToKw pos (keywordEach kws X.env)).map (·.2))) (AP X pins σ Q) X.xe s
section
variable {X : Cx} {CX : CXT} {k : Nat} {f C : Addr} {fd : FuncData} {ps ks : List Str} {sp : Sp} {E : XK} {x m : Str} {p pos apos kpos : Pos} {e o : Expr} {es : List Expr} {kws : List Keyword} {te ta : TE} {t tk : TA} {nm : Option Str}
/-- how a call with keywords binds: g puts the positional values us and the keywords' values ws (names ks) in the parameters' order, defaults among them -/
structure KBinds (K : PySem.W.Frag) (fd : FuncData) (ps ks : List Str) (g : List Value → List Value → List Value) (gV : List V → List V → List V) : Prop where
  to : ∀ (s : Shared) (us ws : List Value), K.In s.heap → (g us ws).length = ps.length → BindsTo s fd ⟨us, ks.zip ws⟩ (ps.zip (g us ws))
  rel : ∀ {vs : List V} {us : List Value} {zs : List V} {ws : List Value}, Vals vs us → Vals zs ws → Vals (gV vs zs) (g us ws)
def tCallK (sp : Sp) (gV : List V → List V → List V) (E : XK) (t tk : TA) : TE := fun σ H Q => t σ H fun vs H1 => tk σ H1 fun zs H2 => sp (gV vs zs) H2 Q E
variable {g : List Value → List Value → List Value} {gV : List V → List V → List V}
end

/-! ### a def's body keeps its promise -/
/-- names: the parameters first -/
structure FnScope (N P : List Str) (sc : Scope) : Prop where
  kind : sc.kind = .function
  co : sc.isCoroutine = false
  gen : sc.isGenerator = false
  nd : N.Nodup
  pre : N.take P.length = P
  par : ∀ x ∈ P, sc.names.lookup x = some .local ∨ sc.names.lookup x = some .cell
  nofree : ∀ y ∈ sc.names, y.2 ≠ .free

theorem bindL_out {kindOf : Str → Option NameKind} {x : Str} : ∀ {binds : List (Str × Value)} {m : Str → Option Value}, (∀ v, (x, v) ∉ binds) → bindL kindOf binds m x = m x
  | [], _, _ => rfl
  | (n, v) :: r, m, h => by
    unfold bindL
    rw [bindL_out fun w hw => h w (List.mem_cons_of_mem _ hw)]
    split
    · have : x ≠ n := by rintro rfl; exact h v List.mem_cons_self
      simp [this]
    · rfl
theorem bindC_out {kindOf : Str → Option NameKind} {x : Str} : ∀ {binds : List (Str × Value)} {m : Str → Option Value}, (∀ v, (x, v) ∉ binds) → bindC kindOf binds m x = m x
  | [], _, _ => rfl
  | (n, v) :: r, m, h => by
    unfold bindC
    rw [bindC_out fun w hw => h w (List.mem_cons_of_mem _ hw)]
    split
    · rfl
    · have : x ≠ n := by rintro rfl; exact h v List.mem_cons_self
      simp [this]
theorem bindL_get {kindOf : Str → Option NameKind} {x : Str} {v : Value} : ∀ {P : List Str} {vs : List Value} {i : Nat} {m : Str → Option Value}, P.Nodup → P[i]? = some x → vs[i]? = some v → kindOf x = some .local →
    bindL kindOf (P.zip vs) m x = some v
  | [], _, _, _, _, h, _, _ => by simp at h
  | _ :: _, [], _, _, _, _, h, _ => by simp at h
  | p :: P, w :: vs, 0, m, nd, h1, h2, hk => by
    simp at h1 h2; subst h1; subst h2
    show bindL kindOf ((p, w) :: P.zip vs) m p = _
    unfold bindL
    rw [bindL_out fun v hv => (List.nodup_cons.mp nd).1 (List.of_mem_zip hv).1, if_pos hk]
    simp
  | p :: P, w :: vs, i + 1, m, nd, h1, h2, hk => by
    show bindL kindOf ((p, w) :: P.zip vs) m x = _
    unfold bindL
    exact bindL_get (i := i) (List.nodup_cons.mp nd).2 (by simpa using h1) (by simpa using h2) hk
theorem bindC_get {kindOf : Str → Option NameKind} {x : Str} {v : Value} : ∀ {P : List Str} {vs : List Value} {i : Nat} {m : Str → Option Value}, P.Nodup → P[i]? = some x → vs[i]? = some v → kindOf x ≠ some .local →
    bindC kindOf (P.zip vs) m x = some v
  | [], _, _, _, _, h, _, _ => by simp at h
  | _ :: _, [], _, _, _, _, h, _ => by simp at h
  | p :: P, w :: vs, 0, m, nd, h1, h2, hk => by
    simp at h1 h2; subst h1; subst h2
    show bindC kindOf ((p, w) :: P.zip vs) m p = _
    unfold bindC
    rw [bindC_out fun v hv => (List.nodup_cons.mp nd).1 (List.of_mem_zip hv).1, if_neg hk]
    simp
  | p :: P, w :: vs, i + 1, m, nd, h1, h2, hk => by
    show bindC kindOf ((p, w) :: P.zip vs) m x = _
    unfold bindC
    exact bindC_get (i := i) (List.nodup_cons.mp nd).2 (by simpa using h1) (by simpa using h2) hk

/-- the names' values at the entry -/
def start (N : List Str) (vs : List V) : St := vs.map some ++ List.replicate (N.length - vs.length) none

/-- the context of a def's body, at its entry; an exception leaves the frame, then lies as CX says -/
def cxOf (CX : CXT) (P : Program) (w : World) (K : PySem.W.Frag) (mg : Str → Option Value) (base : Heap) (N : List Str) (qual : Str) (scope : Scope) (f : Addr) (cd : Value) (A : Around) (outer : List Env) (s : Shared) (H : Hp) (E : XK) : Cx where
  prog := P
  w := w
  K := K
  mg := mg
  base := base
  A := A.deeper (envOfC qual scope s.heap.objs.size f cd)
  N := N
  s₀ := s
  H₀ := H
  env := envOfC qual scope s.heap.objs.size f cd
  outer := outer
  stack := envOfC qual scope s.heap.objs.size f cd :: outer
  ex := []
  calm := true
  fn := fun _ => true
  pn := []
  xe := fun e s' => wpAny (model P w) (A.deeper (envOfC qual scope s.heap.objs.size f cd)) (leaving (envOfC qual scope s.heap.objs.size f cd) e) (fun _ s'' => CX outer H s E e s'') (fun e' s'' => CX outer H s E e' s'') s'

theorem cell_has {sc : Scope} {n : Nat} {x : Str} (h : sc.names.lookup x = some .cell) : ∃ c, (cellsFrom n sc.names []).lookup x = some c := by
  have q := PySem.W.cellsFrom_some sc.names n [] (.inl h)
  exact Option.isSome_iff_exists.mp q

theorem inv_start {CX : CXT} {P : Program} {w : World} {K : PySem.W.Frag} {mg : Str → Option Value} {base : Heap} {N ps : List Str} {qual : Str} {scope : Scope} {f : Addr} {cd : Value} {A : Around} {outer : List Env} {s s1 : Shared} {H : Hp} {E : XK} {us : List Value} {vs : List V}
    (S : FnScope N ps scope) (hd : A.handled = none) (e0 : Env0 P w K mg base A outer s H) (hl : vs.length = ps.length) (r : Vals vs us)
    (x : InCallC s s.heap.objs.size (bindL (envOfC qual scope s.heap.objs.size f cd).kindOf (ps.zip us) fun _ => none) (cellsFrom (s.heap.objs.size + 1) scope.names []) (bindC (envOfC qual scope s.heap.objs.size f cd).kindOf (ps.zip us) fun _ => none) s1) :
    Inv (cxOf CX P w K mg base N qual scope f cd A outer s H E) [] (start N vs) H s1 := by
  have hpl : ps.length ≤ N.length := by have := congrArg List.length S.pre; rw [List.length_take] at this; omega
  obtain ⟨h1, tk, rfl, hk⟩ := x.done
  have noA : ∀ b : Addr, b ∉ (cxOf CX P w K mg base N qual scope f cd A outer s H E).ex := fun b z => absurd (show b ∈ ([] : List Addr) from z) (by simp)
  refine ⟨⟨e0.mod, S.kind, rfl, rfl, Nat.le_refl _, fun y z c h1 h2 => ?_, fun y hy => ?_, fun y c _ h => ?_, fun _ => hd, Around.frames_deeper e0.frames, .inr ⟨rfl, rfl⟩, fun b z => absurd z (noA b), e0.bs, e0.bsz, fun b _ _ => noA b, fun b z => absurd z (noA b), e0.funs, e0.frf⟩,
    rfl, e0.bare, Un.kept hk, ⟨_, x.toInCall.ns, fun i y v h1 h2 h3 => ?_⟩, fun y c h => ⟨_, x.cell y c h⟩, e0.hok.fresh (Nat.le_refl _), fun y c h => ?_, fun p hp => absurd (show p ∈ ([] : List (Addr × Obj)) from hp) (by simp), e0.hok.kept hk, ?_⟩
  · exact name_of_addr x.apart (PySem.mem_of_lookup h1) (PySem.mem_of_lookup h2)
  · have hy : scope.names.lookup y = some .cell ∨ scope.names.lookup y = some .free := hy
    rcases hy with hy | hy
    · exact cell_has hy
    · exact absurd rfl (S.nofree _ (PySem.mem_of_lookup hy))
  · exact Nat.le_of_lt (x.above y c (PySem.mem_of_lookup h))
  · have hi : i < vs.length := by
      unfold start at h2
      by_cases hi : i < vs.length
      · exact hi
      · rw [List.getElem?_append_right (by simpa using hi)] at h2
        rw [List.getElem?_replicate] at h2
        split at h2 <;> cases h2
    have ha : vs[i]? = some v := by
      unfold start at h2
      rw [List.getElem?_append_left (by simpa using hi), List.getElem?_map] at h2
      cases e : vs[i]? with
      | none => rw [e] at h2; cases h2
      | some a => rw [e] at h2; cases h2; rfl
    obtain ⟨u, hu, rv⟩ := r.get ha
    have hp : ps[i]? = some y := by
      rw [← S.pre, List.getElem?_take_of_lt (by omega)]; exact h1
    have ndP : ps.Nodup := by rw [← S.pre]; exact S.nd.sublist (List.take_sublist _ _)
    refine ⟨u, rv, ?_⟩
    rcases S.par y (List.mem_of_getElem? hp) with k | k
    · exact .inl ⟨k, bindL_get ndP hp hu k⟩
    · obtain ⟨c, e⟩ := cell_has (n := s.heap.objs.size + 1) k
      refine .inr ⟨.inl k, c, e, ?_⟩
      have q := x.cell y c e
      rw [bindC_get ndP hp hu (by show scope.names.lookup y ≠ _; rw [k]; decide)] at q
      exact q
  · exact e0.hok.fresh (Nat.le_of_lt (x.above y c (PySem.mem_of_lookup h)))
  · unfold start
    show _ = N.length
    rw [List.length_append, List.length_map, List.length_replicate]
    omega

/-- THE RULE: a def (or a method) of the text, by its body. The body's reading t is chosen for each entry; it is run at the parameters' values -/
theorem fn_of {CX : CXT} {P : Program} {w : World} {K : PySem.W.Frag} {mg : Str → Option Value} {base : Heap} {k : Nat} {f : Addr} {name qual : Str} {params : Arguments} {body : List Stmt} {scope : Scope} {dV kV doc pm cdv ct oc : Value} {an od : Option Addr}
    {osl : Array (Option Value)} {N ps : List Str} {sp : Sp} (lk : K.lookup f = some ⟨oc, od, .func (PySem.W.fnOf name qual params body scope dV kV doc pm an cdv ct), osl⟩) (hcd : PySem.W.codeIn K cdv qual = true) (S : FnScope N ps scope)
    (len : ∀ vs H Q E, sp vs H Q E → vs.length = ps.length)
    (hbody : ∀ (A : Around) (outer : List Env) (s : Shared) (H : Hp) (vs : List V) (Q : VK) (E : XK), Room k (A.deeper (envOfC qual scope s.heap.objs.size f cdv)) → sp vs H Q E →
      ∃ t, PSs (cxOf CX P w K mg base N qual scope f cdv A outer s H E) body t ∧ t { nx := fun _ H' => Q .non H', rt := Q } (start N vs) H) :
    FnOk P w K mg base CX (k + 1) f (PySem.W.fnOf name qual params body scope dV kV doc pm an cdv ct) ps sp := by
  refine ⟨len, fun A outer s H args us vs Q E hr e0 hb r hsp => ?_⟩
  have hl := len _ _ _ _ hsp
  have KX : K.In s.heap := e0.mod.kin.keeps fun b o e => (e0.bs b o e).1
  have lim : s.heap.NoLimit := e0.mod.nolimit.keeps fun b o e => (e0.bs b o e).1
  have hkind : ∀ y ∈ ps.zip us, scope.names.lookup y.1 = some .local ∨ (scope.names.lookup y.1 = some .cell ∧ ((cellsFrom (s.heap.objs.size + 1) scope.names []).lookup y.1).isSome = true) := fun ⟨n, v⟩ hy => by
    rcases S.par n (List.of_mem_zip hy).1 with q | q
    · exact .inl q
    · exact .inr ⟨q, PySem.W.cellsFrom_some _ _ _ (.inl q)⟩
  refine codeAny_call_function hr.depth (KX _ _ lk) rfl S.co S.gen rfl (PySem.W.codeRec_of KX hcd) (hb _ _ _ _ ?_)
  refine wpAny_newFunctionEnv_cells S.kind hkind fun env he s1 x => ?_
  subst he
  refine ⟨lim.keeps x.toInCall.keep, codeAny_func ?_⟩
  obtain ⟨t, ht, hq⟩ := hbody A outer s H vs Q E (hr.deeper _) hsp
  have I : Inv (cxOf CX P w K mg base N qual scope f cdv A outer s H E) [] (start N vs) H s1 := inv_start S hr.hd e0 hl r x
  refine wpAny_mono (ht [] s1 (start N vs) H _ I hq) (fun fl s' hs => ?_) fun e s' hs => hs
  have fin : ∀ {σ' : St} {H' : Hp} {v : V} {u : Value}, Inv (cxOf CX P w K mg base N qual scope f cdv A outer s H E) [] σ' H' s' → RelV v u → Q v H' → CE outer P w H s Q u s' :=
    fun {σ' H' v u} J rv q => ⟨v, H', J.os, J.bare, J.base, J.hok, rv, q⟩
  cases fl with
  | ret u =>
    obtain ⟨v, σ', H', J, rv, q⟩ := hs
    exact fin J rv q
  | next =>
    obtain ⟨σ', H', J, q⟩ := hs
    exact fin (v := V.non) (u := Value.none) J rfl q
  | brk =>
    obtain ⟨_, _, _, q⟩ := hs
    exact False.elim q
  | cont =>
    obtain ⟨_, _, _, q⟩ := hs
    exact False.elim q
end L2

namespace L2
open PySem PySem.Spec PyProof.Rows
section
variable {X : Cx} {x : Str} {p pos : Pos} {e : Expr} {es : List Expr} {t : TA} {id T : String} {r : List V → Hp → VK → Prop}

def tCB (r : List V → Hp → VK → Prop) (t : TA) : TE := fun σ H Q => t σ H fun vs H1 => r vs H1 Q
/-- f(e, ..), f a built-in function -/
theorem pe_callB (hc : CallR X (.builtin id) r) (hg : Gl X x) (hm : X.mg x = none) (hv : bootBuiltins x = some (.builtin id)) (ha : PA X (e :: es) t) (hn : x ≠ "__name__" := by decide) (hdb : (x == ("__debug__" : Str)) = false := by decide)
    (he : starEach (e :: es) X.env = (false, eval e X.env) :: starEach es X.env := by rfl) (hpl : (backTo pos (starEach es X.env)).any (·.1) = false := by rfl) : PE X (.Call (.Name x p) (e :: es) [] pos) (tCB r t) := by
  intro pins s σ H Q I h
  refine wpAny_Call_Name_kw (ld_blt I hg hm hv ?_ hn hdb)
  exact PyProof.Rows.callWith_builtin1 (thn (ha pos pins s σ H _ I h) fun us s1 ⟨vs, H1, I1, r1, q1⟩ => hc pins s1 σ H1 vs us Q I1 r1 q1) he hpl
/-- T(e, ..), T a built-in type -/
theorem pe_callTy (hc : CallR X (.type T) r) (hg : Gl X x) (hm : X.mg x = none) (hv : bootBuiltins x = some (.type T)) (ha : PA X (e :: es) t) (hn : x ≠ "__name__" := by decide) (hdb : (x == ("__debug__" : Str)) = false := by decide)
    (he : starEach (e :: es) X.env = (false, eval e X.env) :: starEach es X.env := by rfl) (hpl : (backTo pos (starEach es X.env)).any (·.1) = false := by rfl) : PE X (.Call (.Name x p) (e :: es) [] pos) (tCB r t) := by
  intro pins s σ H Q I h
  refine wpAny_Call_Name_kw (ld_blt I hg hm hv ?_ hn hdb)
  exact PyProof.Rows.callWith_type1 (thn (ha pos pins s σ H _ I h) fun us s1 ⟨vs, H1, I1, r1, q1⟩ => hc pins s1 σ H1 vs us Q I1 r1 q1) he hpl
end
end L2

namespace HT
open PySem PyProof.Rows

/-- t < u of tuples of ints -/
def lexLt : List Int → List Int → Bool
  | [], [] => false
  | [], _ :: _ => true
  | _ :: _, [] => false
  | x :: xs, y :: ys => if x = y then lexLt xs ys else decide (x < y)
section
open PySem.SeqAt
open PySem.AutoSeq1 (wpAny_loadPart')
open PySem.MeetsSeq PySem.MeetsSeq2 PySem.MeetsSeq3

end

section
variable {prog : Program} {w : World} {A : Around} {E : Value → Shared → Prop} {s : Shared}

/-! ### t[a:b], not the whole -/
/-- a slice's bound as a place among n (d where it is left out) -/
def sIx (n d : Nat) : Option Int → Nat
  | none => d
  | some v => if v < 0 then (v + (n : Int)).toNat else min v.toNat n
theorem sIx_none (n d : Nat) : sIx n d none = d := rfl
theorem sIx_nat (n d k : Nat) : sIx n d (some (k : Int)) = min k n := by
  show (if (k : Int) < 0 then ((k : Int) + (n : Int)).toNat else min (k : Int).toNat n) = min k n
  rw [if_neg (by omega), Int.toNat_natCast]
end
end HT

namespace L2
open PySem PySem.Spec PyProof.Rows

/-! ### the parts of a slice -/
abbrev TO := St → Hp → (Option Int → Hp → Prop) → Prop
/-- a slice's part (left out, or an int) -/
def PO (X : Cx) (e : Option Expr) (t : TO) : Prop :=
  ∀ (pins : List (Addr × Obj)) (s : Shared) (σ : St) (H : Hp) (Q : Option Int → Hp → Prop), Inv X pins σ H s → t σ H Q →
    wpAny (model X.prog X.w) X.A (evalPart e X.env) (fun u s' => ∃ o H', Inv X pins σ H' s' ∧ IsPart u o ∧ Q o H') X.xe s
def tNoPart : TO := fun _ H Q => Q none H
def tPart (t : TE) : TO := fun σ H Q => t σ H fun x H1 => ∃ i, x = .int i ∧ Q (some i) H1

theorem intsAre_of {ns : List Int} : ∀ {us : List Value}, Vals (ns.map V.int) us → IntsAre us ns := by
  induction ns with
  | nil => intro us r; rw [List.map_nil] at r; cases r; exact .nil
  | cons n ns ih =>
    intro us r
    rw [List.map_cons] at r
    cases r with
    | cons r1 r2 =>
      obtain ⟨t, e⟩ := r1
      subst e
      exact .cons n t (ih r2)

section
variable {X : Cx} {e : Expr} {te : TE} {lo hi : Option Expr} {tl th : TO} {pos p2 : Pos}

theorem po_none : PO X none tNoPart := by
  intro pins s σ H Q I h
  rw [evalPart_none]
  exact wpAny_pure ⟨none, H, I, .none, h⟩
theorem po_some (h : PE X e te) : PO X (some e) (tPart te) := by
  intro pins s σ H Q I hw
  rw [evalPart_some]
  refine thn (h pins s σ H _ I hw) fun u s1 ⟨x, H1, I1, r1, q1⟩ => ?_
  obtain ⟨i, rfl, q⟩ := q1
  obtain ⟨t, rfl⟩ := r1
  exact ⟨some i, H1, I1, .int i t, q⟩

/-- what a slice of a value is, by values: the slice object stands at sl -/
def SlR (X : Cx) (r : V → Option Int → Option Int → Hp → VK → Prop) : Prop :=
  ∀ (pins : List (Addr × Obj)) (s : Shared) (σ : St) (H : Hp) (x : V) (v vl vu : Value) (lo hi : Option Int) (sl : Addr) (Q : VK), Inv X pins σ H s → RelV x v → s.heap.IsSliceOf sl vl vu .none → IsPart vl lo → IsPart vu hi → r x lo hi H Q →
    ∃ T id, typeLookup (.type T) "__getitem__" = pure (some (.builtin id)) ∧ s.TypeIs v T ∧ wpAny (model X.prog X.w) X.A (getItem v (.ref sl)) (EP X pins σ Q) X.xe s
def tSl (r : V → Option Int → Option Int → Hp → VK → Prop) (te : TE) (tl th : TO) : TE := fun σ H Q => te σ H fun x H1 => tl σ H1 fun l H2 => th σ H2 fun u H3 => r x l u H3 Q
/-- a[lo:hi], any a -/
theorem pe_slice {r : V → Option Int → Option Int → Hp → VK → Prop} (hr : SlR X r) (he : PE X e te) (hl : PO X lo tl) (hu : PO X hi th) : PE X (.Subscript e (.Slice lo hi none p2) pos) (tSl r te tl th) := by
  intro pins s σ H Q I h
  refine Subscript_ (thn (he pins s σ H _ I h) fun v s1 ⟨x, H1, I1, r1, q1⟩ => ?_)
  refine wpAny_Slice (thn (hl pins s1 σ H1 _ I1 q1) fun vl s2 ⟨l, H2, I2, pl, q2⟩ => thn (hu pins s2 σ H2 _ I2 q2) fun vu s3 ⟨u, H3, I3, pu, q3⟩ => ?_)
  rw [evalPart_none]
  refine wpAny_pure ?_
  have I4 : Inv X pins σ H3 { s3 with heap := s3.heap.push { cls := .type "slice", data := .fields #[vl, vu, .none] } } := I3.kept (t' := s3.toks) fun b ob q => Heap.get?_push_of_some _ q
  obtain ⟨T, id, hT, ht, hg⟩ := hr pins { s3 with heap := s3.heap.push { cls := .type "slice", data := .fields #[vl, vu, .none] } } σ H3 x v vl vu l u s3.heap.objs.size Q I4 r1 (Heap.IsSliceOf.new ..) pl pu q3
  show wpAny (model X.prog X.w) X.A (subscriptTail e (.Slice lo hi none p2) v (.ref s3.heap.objs.size)) (EP X pins σ Q) X.xe { s3 with heap := s3.heap.push { cls := .type "slice", data := .fields #[vl, vu, .none] } }
  exact tail_any (ops := [.ref s3.heap.objs.size, v]) ht hT hg (by with_unfolding_all rfl)

/-- the items of xs[lo:hi] -/
def cutV (xs : List V) (lo hi : Option Int) : List V := (xs.drop (HT.sIx xs.length 0 lo)).take (HT.sIx xs.length xs.length hi - HT.sIx xs.length 0 lo)
theorem cutV_length (xs : List V) (lo hi : Option Int) : (cutV xs lo hi).length ≤ xs.length := by
  unfold cutV
  rw [List.length_take, List.length_drop]
  omega
/-- t[lo:hi], not the whole of it (the whole would be t itself) -/
def rSlT (K : PySem.W.Frag) : V → Option Int → Option Int → Hp → VK → Prop := fun x lo hi H Q => ∃ a xs, x = .ref a ∧ SqT K H a xs ∧
  ¬ (HT.sIx xs.length 0 lo = 0 ∧ HT.sIx xs.length xs.length hi = xs.length) ∧ ∀ p, H p = none → Q (.ref p) (upd H p (.tup (cutV xs lo hi)))
/-! ### t < u, t + u -/
def rLtT (K : PySem.W.Frag) : R2 := fun x y H Q => ∃ a b ns ms, x = .ref a ∧ y = .ref b ∧ SqT K H a (ns.map V.int) ∧ SqT K H b (ms.map V.int) ∧ Q (.bl (HT.lexLt ns ms)) H
/-- t + u, t not empty: u empty gives t itself -/
def rCatT (K : PySem.W.Frag) : R2 := fun x y H Q => ∃ a b xs ys, x = .ref a ∧ y = .ref b ∧ SqT K H a xs ∧ SqT K H b ys ∧ xs ≠ [] ∧ xs.length + ys.length ≤ sizeLine ∧
  (ys = [] → Q (.ref a) H) ∧ (ys ≠ [] → ∀ p, H p = none → Q (.ref p) (upd H p (.tup (xs ++ ys))))
end
end L2

namespace L2
open PySem PySem.Spec PyProof.Rows

/-! ### places -/
/-- the place that an index of any sign means -/
def ixN (n : Nat) (i : Int) : Option Nat := if 0 ≤ i then (if i < n then some i.toNat else none) else if -(n : Int) ≤ i then some (i + n).toNat else none
def atI {α : Type} (xs : List α) (i : Int) : Option α := (ixN xs.length i).bind fun j => xs[j]?
theorem ixN_seq {n : Nat} {i : Int} {j : Nat} (h : ixN n i = some j) : seqIndex? i n = some j ∧ j < n ∧ -(n : Int) ≤ i ∧ i < n := by
  unfold ixN at h
  by_cases h0 : 0 ≤ i
  · rw [if_pos h0] at h
    by_cases h1 : i < n
    · rw [if_pos h1] at h
      have e : i.toNat = j := Option.some.inj h
      exact ⟨by rw [seqIndex_of h0 h1, e], by omega, by omega, h1⟩
    · rw [if_neg h1] at h; cases h
  · rw [if_neg h0] at h
    by_cases h1 : -(n : Int) ≤ i
    · rw [if_pos h1] at h
      have e : (i + n).toNat = j := Option.some.inj h
      exact ⟨by rw [seqIndex_neg (by omega) h1, e], by omega, h1, by omega⟩
    · rw [if_neg h1] at h; cases h
theorem atI_get {α : Type} {xs : List α} {i : Int} {v : α} (h : atI xs i = some v) : ∃ j, seqIndex? i xs.length = some j ∧ xs[j]? = some v ∧ j < xs.length ∧ -(xs.length : Int) ≤ i ∧ i < xs.length := by
  unfold atI at h
  cases e : ixN xs.length i with
  | none => rw [e] at h; cases h
  | some j =>
    rw [e] at h
    obtain ⟨h1, h2, h3, h4⟩ := ixN_seq e
    exact ⟨j, h1, h, h2, h3, h4⟩
theorem atI_nat {α : Type} {xs : List α} {j : Nat} {v : α} (h : xs[j]? = some v) : atI xs (j : Int) = some v := by
  have hj : j < xs.length := (List.getElem?_eq_some_iff.mp h).1
  have e : ixN xs.length (j : Int) = some j := by
    unfold ixN
    rw [if_pos (by omega), if_pos (by omega)]; simp
  unfold atI; rw [e]; exact h
theorem atI_last {α : Type} (xs : List α) (v : α) : atI (xs ++ [v]) (-1) = some v := by
  have hl : (xs ++ [v]).length = xs.length + 1 := by simp
  have e : ixN (xs ++ [v]).length (-1) = some xs.length := by
    unfold ixN
    rw [hl, if_neg (by decide), if_pos (by omega)]
    congr 1
    omega
  unfold atI
  rw [e]
  show (xs ++ [v])[xs.length]? = some v
  simp

/-! ### what may be subscripted -/
/-- what stands as an index of a plain subscript -/
def PlainIx (b : Expr) : Prop := ∀ o i, subscripted b false o i = operate [o, i] (getItem o i)
/-- a subscript by values -/
def IxR (X : Cx) (r : R2) : Prop :=
  ∀ (value slice : Expr) (pins : List (Addr × Obj)) (s : Shared) (σ : St) (H : Hp) (x y : V) (v u : Value) (Q : VK), Inv X pins σ H s → RelV x v → RelV y u → r x y H Q →
    subscripted slice false v u = operate [v, u] (getItem v u) → wpAny (model X.prog X.w) X.A (subscriptTail value slice v u) (EP X pins σ Q) X.xe s
/-- a call of a builtin's method by values: the receiver, the arguments -/
def MtR (X : Cx) (id : String) (r : V → List V → Hp → VK → Prop) : Prop :=
  ∀ (pins : List (Addr × Obj)) (s : Shared) (σ : St) (H : Hp) (x : V) (xs : List V) (v : Value) (us : List Value) (Q : VK), Inv X pins σ H s → RelV x v → Vals xs us → r x xs H Q →
    wpAny (model X.prog X.w) X.A (call (.builtin id) (v :: us)) (EP X pins σ Q) X.xe s
section
variable {X : Cx} {a b : Expr} {ta tb : TE} {pos : Pos}
/-- a[b] -/
theorem pe_ix {r : R2} (hr : IxR X r) (ha : PE X a ta) (hb : PE X b tb) (hs : PlainIx b) : PE X (.Subscript a b pos) (tOp r ta tb) := by
  intro pins s σ H Q I h
  exact Subscript_ (binT ha hb I h fun v u s2 x y H2 I2 rx ry q => hr a b pins s2 σ H2 x y v u Q I2 rx ry q (hs _ _))

def rIxL (K : PySem.W.Frag) : R2 := fun x y H Q => ∃ p xs i v, x = .ref p ∧ y = .int i ∧ SqL K H p xs ∧ atI xs i = some v ∧ Q v H
def rIxT (K : PySem.W.Frag) : R2 := fun x y H Q => ∃ p xs i v, x = .ref p ∧ y = .int i ∧ SqT K H p xs ∧ atI xs i = some v ∧ Q v H
def rIxS : R2 := fun x y H Q => ∃ z i c, x = .str z ∧ y = .int i ∧ z.length ≤ sizeLine ∧ atI z.cps.toList i = some c ∧ Q (.str ⟨#[c]⟩) H
theorem ix_list : IxR X (rIxL X.K) := by
  intro value slice pins s σ H x y v u Q I rx ry h hs
  obtain ⟨p, xs, i, z, rfl, rfl, hq, he, q⟩ := h
  cases rx
  obtain ⟨t, rfl⟩ := ry
  obtain ⟨its, r, pl, hz⟩ := I.list hq
  obtain ⟨j, h1, h2, h3, h4, h5⟩ := atI_get he
  obtain ⟨w, ew, rw'⟩ := r.get h2
  have hl := r.length
  have hn := line63
  have fin : EP X pins σ Q w s := ⟨z, H, I, rw', q⟩
  by_cases h0 : 0 ≤ i
  · have hj : i.toNat = j := by
      rw [seqIndex_of h0 h5] at h1
      exact Option.some.inj h1
    exact item_listR pl.isList h0 (by omega) (by rw [hj]; simpa using ew) fin hs
  · have hj : (i + (its.toArray.size : Int)).toNat = j := by
      rw [seqIndex_neg (by omega) h4] at h1
      rw [List.size_toArray, ← hl]
      exact Option.some.inj h1
    exact subscriptTail_builtinR (x := w) pl.isList.typeIs slot_list_getitem.lookup
      (wpAny_getItem_list_neg (Q := fun r s' => r = w ∧ EP X pins σ Q r s') pl.isList (by omega) (by rw [List.size_toArray] <;> omega) (by omega) (by rw [hj]; simpa using ew) ⟨rfl, fin⟩) hs
theorem ix_tup : IxR X (rIxT X.K) := by
  intro value slice pins s σ H x y v u Q I rx ry h hs
  obtain ⟨p, xs, i, z, rfl, rfl, hq, he, q⟩ := h
  cases rx
  obtain ⟨t, rfl⟩ := ry
  obtain ⟨its, r, pl, hz⟩ := I.tuple hq
  obtain ⟨j, h1, h2, h3, h4, h5⟩ := atI_get he
  obtain ⟨w, ew, rw'⟩ := r.get h2
  have hl := r.length
  have hn := line63
  have fin : EP X pins σ Q w s := ⟨z, H, I, rw', q⟩
  exact subscriptTail_builtinR (x := w) pl.typeIs slot_tuple_getitem.lookup
    (getItem_tuple (j := j) (Q := fun r s' => r = w ∧ EP X pins σ Q r s') pl (by omega) (by omega) (by rw [List.size_toArray, ← hl]; exact h1) (by simpa using ew) ⟨rfl, fin⟩) hs
theorem ix_str : IxR X rIxS := by
  intro value slice pins s σ H x y v u Q I rx ry h hs
  obtain ⟨z, i, c, rfl, rfl, hz, he, q⟩ := h
  obtain ⟨t, rfl⟩ := rx
  obtain ⟨t', rfl⟩ := ry
  obtain ⟨j, h1, h2, h3, h4, h5⟩ := atI_get he
  have hl : z.cps.toList.length = z.length := by simp [Str.length]
  rw [hl] at h1 h4 h5
  have hn := line63
  exact tail_any (typeIs_str s z t) slot_str_getitem.lookup (getItem_str (c := c) (by
    have e1 : decide (i < -(2 ^ 63 : Int)) = false := decide_eq_false (by omega)
    have e2 : decide (i ≥ 2 ^ 63) = false := decide_eq_false (by omega)
    rw [e1, e2, Bool.or_false]) (by rw [h1]; simpa using h2) ⟨.str ⟨#[c]⟩, H, I.tok _, ⟨_, rfl⟩, q⟩) hs
/-- list, tuple or str -/
def rIx (K : PySem.W.Frag) : R2 := fun x y H Q => rIxL K x y H Q ∨ rIxT K x y H Q ∨ rIxS x y H Q
/-! ### xs[i] = v, any sign -/
/-- the list's object behind a store -/
theorem mapSeq_set (its : List Value) (n j : Nat) (u : Value) : Obj.mapSeq (·.setIfInBounds j u) { cls := .type "list", data := .seq its.toArray n } = { cls := .type "list", data := .seq (its.set j u).toArray n } := by
  simp [Obj.mapSeq]
theorem Inv.lst {pins : List (Addr × Obj)} {σ : St} {H : Hp} {s : Shared} {p : Addr} {xs : List V} (I : Inv X pins σ H s) (h : H p = some (.lst xs)) :
    ∃ (its : List Value) (n : Nat), Vals xs its ∧ s.heap.get? p = some { cls := .type "list", data := .seq its.toArray n } ∧ xs.length ≤ sizeLine := by
  obtain ⟨z, its, n, r, e⟩ := I.hok p _ h
  exact ⟨its, n, r, e, z⟩
/-- the list at p is written by an update of its object -/
theorem Inv.lstUpd {pins : List (Addr × Obj)} {σ : St} {H : Hp} {s : Shared} {p : Addr} {xs ys : List V} {its its' : List Value} {n n' : Nat} {f : Obj → Obj} (I : Inv X pins σ H s) (h : H p = some (.lst xs))
    (ho : s.heap.get? p = some { cls := .type "list", data := .seq its.toArray n }) (hf : f { cls := .type "list", data := .seq its.toArray n } = { cls := .type "list", data := .seq its'.toArray n' }) (r : Vals ys its') (hz : ys.length ≤ sizeLine) (t : Nat) :
    Inv X pins σ (upd H p (.lst ys)) { s with heap := s.heap.update p f, toks := t } := by
  have e : (s.heap.update p f).get? p = some { cls := .type "list", data := .seq its'.toArray n' } := by
    rw [Heap.get?_update_self f ho (by rw [hf] <;> rfl), hf]
  refine I.write (x := p) (e := p) (by rw [h]; trivial) (.inl rfl) (fun b u hb q => (Heap.get?_update_other _ _ (Ne.symm hb)).trans q) ⟨_, e⟩ ?_
  exact ⟨hz, its', n', r, e⟩
def rSetL : V → V → V → Hp → (Hp → Prop) → Prop := fun o i v H Q => ∃ p xs k j, o = .ref p ∧ i = .int k ∧ H p = some (.lst xs) ∧ ixN xs.length k = some j ∧ Q (upd H p (.lst (xs.set j v)))
theorem set_list : PSet X rSetL := by
  intro pins s σ H o i v ov iv u Q I ro ri rv h
  obtain ⟨p, xs, k, j, rfl, rfl, hp, hj, q⟩ := h
  cases ro
  obtain ⟨t, rfl⟩ := ri
  obtain ⟨its, n, r, ho, hz⟩ := I.lst hp
  obtain ⟨h1, h2, h3, h4⟩ := ixN_seq hj
  have hl := r.length
  have hn := line63
  have I' : Inv X pins σ (upd H p (.lst (xs.set j v))) { s with heap := s.heap.update p (Obj.mapSeq (·.setIfInBounds j u)) } :=
    I.lstUpd hp ho (mapSeq_set its n j u) (r.set rv j) (by rw [List.length_set]; exact hz) s.toks
  by_cases h0 : 0 ≤ k
  · have hk : k.toNat = j := by
      rw [seqIndex_of h0 h4] at h1
      exact Option.some.inj h1
    exact PySem.W.ki_setAt ho h0 (by omega) (by rw [List.size_toArray, ← hl]; exact h4) (by rw [hk]; exact ⟨_, I', q⟩)
  · have hk : (k + (its.toArray.size : Int)).toNat = j := by
      rw [seqIndex_neg (by omega) h3] at h1
      rw [List.size_toArray, ← hl]
      exact Option.some.inj h1
    exact PySem.W.ki_setBack ho (by omega) (by rw [List.size_toArray, ← hl]; exact h3) (by omega) (by rw [hk]; exact ⟨_, I', q⟩)

/-! ### slices -/
theorem slice_bounds (lo hi : Option Int) (n : Nat) : (sliceBounds lo hi none n).1 = ((HT.sIx n 0 lo : Nat) : Int) ∧ (sliceBounds lo hi none n).2.1 = ((HT.sIx n n hi : Nat) : Int) ∧ (sliceBounds lo hi none n).2.2 = 1 := by
  refine ⟨?_, ?_, rfl⟩
  · cases lo with
    | none => simp [sliceBounds, HT.sIx]
    | some i =>
      simp only [sliceBounds, HT.sIx, Option.getD_none, show (1 : Int) > 0 by decide, if_true]
      by_cases h : i < 0
      · simp only [h, if_true] <;> omega
      · simp only [h, if_false] <;> omega
  · cases hi with
    | none => simp [sliceBounds, HT.sIx]
    | some i =>
      simp only [sliceBounds, HT.sIx, Option.getD_none, show (1 : Int) > 0 by decide, if_true]
      by_cases h : i < 0
      · simp only [h, if_true] <;> omega
      · simp only [h, if_false] <;> omega
theorem slicePick_cut (its : List Value) (lo hi : Option Int) : slicePick its.toArray lo hi none = ((its.drop (HT.sIx its.length 0 lo)).take (HT.sIx its.length its.length hi - HT.sIx its.length 0 lo)).toArray := by
  obtain ⟨h1, h2, h3⟩ := slice_bounds lo hi its.toArray.size
  unfold slicePick
  rw [h1, h2, h3]
  simp only [sliceRange_one, pick_run, List.size_toArray] <;> rfl
/-- xs[lo:hi] of a list: a new list -/
def rSlL (K : PySem.W.Frag) : V → Option Int → Option Int → Hp → VK → Prop := fun x lo hi H Q => ∃ a xs, x = .ref a ∧ SqL K H a xs ∧ ∀ p, H p = none → Q (.ref p) (upd H p (.lst (cutV xs lo hi)))
theorem sl_list : SlR X (rSlL X.K) := by
  intro pins s σ H x v vl vu lo hi sl Q I rx hs pl pu h
  obtain ⟨a, xs, rfl, hx, q⟩ := h
  cases rx
  obtain ⟨its, r, ht, hz⟩ := I.list hx
  have hlen := r.length
  refine ⟨"list", _, slot_list_getitem.lookup, ht.isList.typeIs, ?_⟩
  refine wpAny_getItem_list_slice ht.isList hs pl pu .none (by simp) ?_ (by rw [List.size_toArray] <;> omega)
  rw [slicePick_cut, ← hlen]
  refine ⟨.ref s.heap.objs.size, _, I.laid (t' := s.toks) (o := .lst (cutV xs lo hi)) (fun b ob q => Heap.get?_push_of_some _ q) (Nat.le_refl _) ?_, rfl, q _ (I.hok.fresh (Nat.le_refl _))⟩
  exact ⟨Nat.le_trans (cutV_length xs lo hi) hz, _, 0, (r.drop (HT.sIx xs.length 0 lo)).take (HT.sIx xs.length xs.length hi - HT.sIx xs.length 0 lo), Heap.get?_push_size _ rfl⟩

/-! ### in, not in: flat items -/
def flatV : V → Bool
  | .non => true
  | .bl _ => true
  | .int _ => true
  | .str _ => true
  | _ => false
/-- == of flat values -/
def eqV : V → V → Bool
  | .non, .non => true
  | .bl a, .bl b => a == b
  | .bl a, .int b => (if a then 1 else 0) == b
  | .int a, .bl b => a == (if b then 1 else 0)
  | .int a, .int b => a == b
  | .str a, .str b => a == b
  | _, _ => false
theorem eqAt_V {A : Around} {s : Shared} {y x : V} {u v : Value} (ry : RelV y u) (rx : RelV x v) (fy : flatV y = true) (fx : flatV x = true) : SeqAt.EqAt A s u v (eqV y x) := by
  cases y with
  | non =>
    cases ry
    cases x with
    | non => cases rx; exact SeqAt.EqAt.same _
    | bl b => cases rx; exact SeqAt.EqAt.none_bool b
    | int b => obtain ⟨t, rfl⟩ := rx; exact SeqAt.EqAt.none_int b t
    | str b => obtain ⟨t, rfl⟩ := rx; exact SeqAt.EqAt.none_str b t
    | _ => exact absurd (show false = true from fx) Bool.false_ne_true
  | bl a =>
    cases ry
    cases x with
    | non => cases rx; exact SeqAt.EqAt.bool_none a
    | bl b => cases rx; exact SeqAt.EqAt.bool_bool a b
    | int b => obtain ⟨t, rfl⟩ := rx; exact SeqAt.EqAt.bool_int a b t
    | str b => obtain ⟨t, rfl⟩ := rx; exact SeqAt.EqAt.bool_str a b t
    | _ => exact absurd (show false = true from fx) Bool.false_ne_true
  | int a =>
    obtain ⟨t', rfl⟩ := ry
    cases x with
    | non => cases rx; exact SeqAt.EqAt.int_none a t'
    | bl b => cases rx; exact SeqAt.EqAt.int_bool a t' b
    | int b => obtain ⟨t, rfl⟩ := rx; exact SeqAt.EqAt.int_int a t' b t
    | str b => obtain ⟨t, rfl⟩ := rx; exact SeqAt.EqAt.int_str a t' b t
    | _ => exact absurd (show false = true from fx) Bool.false_ne_true
  | str a =>
    obtain ⟨t', rfl⟩ := ry
    cases x with
    | non => cases rx; exact SeqAt.EqAt.str_none a t'
    | bl b => cases rx; exact SeqAt.EqAt.str_bool a t' b
    | int b => obtain ⟨t, rfl⟩ := rx; exact SeqAt.EqAt.str_int a t' b t
    | str b => obtain ⟨t, rfl⟩ := rx; exact SeqAt.EqAt.str_str a t' b t
    | _ => exact absurd (show false = true from fx) Bool.false_ne_true
  | _ => exact absurd (show false = true from fy) Bool.false_ne_true
/-- the items' answers, read off the values (a value's own answer does not lean on its token) -/
def eqU (x : V) (u : Value) : Bool := match u with
  | .none => eqV .non x
  | .bool b => eqV (.bl b) x
  | .int i _ => eqV (.int i) x
  | .str z _ => eqV (.str z) x
  | _ => false
theorem eqU_of {x y : V} {u : Value} (r : RelV y u) (f : flatV y = true) : eqU x u = eqV y x := by
  cases y with
  | non => cases r; rfl
  | bl b => cases r; rfl
  | int i => obtain ⟨t, rfl⟩ := r; rfl
  | str z => obtain ⟨t, rfl⟩ := r; rfl
  | _ => exact absurd (show false = true from f) Bool.false_ne_true
theorem any_eqU {x : V} : ∀ {xs : List V} {us : List Value}, Vals xs us → xs.all flatV = true → us.any (eqU x) = xs.any fun y => eqV y x
  | _, _, .nil, _ => rfl
  | y :: xs, u :: us, .cons r t, f => by
    rw [List.all_cons, Bool.and_eq_true] at f
    rw [List.any_cons, List.any_cons, eqU_of r f.1, any_eqU t f.2]
theorem mem_eqAt {A : Around} {s : Shared} {x : V} {v : Value} (rx : RelV x v) (fx : flatV x = true) : ∀ {xs : List V} {us : List Value}, Vals xs us → xs.all flatV = true → ∀ u ∈ us, SeqAt.EqAt A s u v (eqU x u)
  | _, _, .nil, _ => fun u hu => by cases hu
  | y :: xs, u :: us, .cons r t, f => fun u' hu => by
    rw [List.all_cons, Bool.and_eq_true] at f
    rcases List.mem_cons.mp hu with rfl | hu
    · rw [eqU_of r f.1]; exact eqAt_V r rx f.1 fx
    · exact mem_eqAt rx fx t f.2 u' hu
def inV (x : V) (xs : List V) : Bool := xs.any fun y => eqV y x
/-- x in a list or tuple of flat items -/
def rIn (K : PySem.W.Frag) (neg : Bool) : R2 := fun x y H Q => ∃ p xs, y = .ref p ∧ (SqL K H p xs ∨ SqT K H p xs) ∧ flatV x = true ∧ xs.all flatV = true ∧ Q (.bl (if neg then !inV x xs else inV x xs)) H
theorem op_notIn_seq : OpR X (compareOp .NotIn) (rIn X.K true) := by
  intro pins s σ H x y v u Q I rx ry h
  obtain ⟨p, xs, rfl, hq, fx, fs, q⟩ := h
  cases ry
  rcases hq with hq | hq
  · obtain ⟨its, r, pl, hz⟩ := I.list hq
    refine SeqAt.notIn_listAt (eqU x) pl.isList (fun w hw => mem_eqAt rx fx r fs w (by simpa using hw)) ⟨.bl _, H, I, rfl, ?_⟩
    rw [show its.toArray.any (eqU x) = its.any (eqU x) by simp, any_eqU r fs]
    exact q
  · obtain ⟨its, r, pl, hz⟩ := I.tuple hq
    refine SeqAt.notIn_tupleAt (eqU x) pl (fun w hw => mem_eqAt rx fx r fs w (by simpa using hw)) ⟨.bl _, H, I, rfl, ?_⟩
    rw [show its.toArray.any (eqU x) = its.any (eqU x) by simp, any_eqU r fs]
    exact q
/-! ### len, list(x), tuple(x) of any list or tuple that is read -/
theorem call_len_seq : CallR X (.builtin "len") (fun xs H Q => ∃ p ys, xs = [.ref p] ∧ (SqL X.K H p ys ∨ SqT X.K H p ys) ∧ Q (.int ys.length) H) := by
  intro pins s σ H xs us Q I r h
  obtain ⟨p, ys, rfl, hq, q⟩ := h
  obtain ⟨u, rfl, rx⟩ := vals1 r
  cases rx
  have hn := line63
  rcases hq with hq | hq
  · obtain ⟨its, r', pl, hz⟩ := I.list hq
    have hlen := r'.length
    exact Calls.call_len_list pl.isList (by simp only [List.size_toArray] <;> omega) ⟨.int ys.length, H, I.tok _, ⟨s.toks + 1, by rw [List.size_toArray, hlen]⟩, q⟩
  · obtain ⟨its, r', pl, hz⟩ := I.tuple hq
    have hlen := r'.length
    exact len_tuple pl (by simp only [List.size_toArray] <;> omega) ⟨.int ys.length, H, I.tok _, ⟨s.toks + 1, by rw [List.size_toArray, hlen]⟩, q⟩
theorem call_list_of : CallR X (.type "list") (fun xs H Q => ∃ p ys, xs = [.ref p] ∧ (SqL X.K H p ys ∨ SqT X.K H p ys) ∧ ∀ l, H l = none → Q (.ref l) (upd H l (.lst ys))) := by
  intro pins s σ H xs us Q I r h
  obtain ⟨p, ys, rfl, hq, q⟩ := h
  obtain ⟨u, rfl, rx⟩ := vals1 r
  cases rx
  have fin : ∀ (its : List Value), Vals ys its → ys.length ≤ sizeLine → ∀ (h' : Heap) (c' : Nat), (∀ b o', s.heap.get? b = some o' → h'.get? b = some o') →
      h'.get? s.heap.objs.size = some { cls := .type "list", dict := none, data := .seq its.toArray c', slots := #[] } → EP X pins σ Q (.ref s.heap.objs.size) { s with heap := h' } := fun its r' hz h' c' kp e =>
    ⟨.ref s.heap.objs.size, _, I.laid (t' := s.toks) kp (Nat.le_refl _) (show ObjOk X.prog X.w _ h' _ (.lst ys) from ⟨hz, its, c', r', e⟩), rfl, q _ (I.hok.fresh (Nat.le_refl _))⟩
  rcases hq with hq | hq
  · obtain ⟨its, r', pl, hz⟩ := I.list hq
    have hlen := r'.length
    obtain ⟨o, ho, hc, n, hd⟩ := pl.isList
    exact call_list_seq p (.inl rfl) ho hc hd (fun h' c' kp e => fin its r' hz h' c' kp e) (by simp only [List.size_toArray] <;> omega)
  · obtain ⟨its, r', pl, hz⟩ := I.tuple hq
    have hlen := r'.length
    obtain ⟨o, ho, hc, n, hd⟩ := pl
    exact call_list_seq p (.inr rfl) ho hc hd (fun h' c' kp e => fin its r' hz h' c' kp e) (by simp only [List.size_toArray] <;> omega)
/-! ### the call of a builtin's method: o.m(..) -/
/-- the value is of that builtin type -/
def tyV (K : PySem.W.Frag) (T : String) (x : V) (H : Hp) : Prop := match x with
  | .str _ => T = "str"
  | .int _ => T = "int"
  | .ref p => (T = "list" ∧ ∃ xs, SqL K H p xs) ∨ (T = "tuple" ∧ ∃ o, K.lookup p = some o ∧ o.cls = .type "tuple" ∧ o.dict = none) ∨
      (T = "dict" ∧ ((∃ kvs, H p = some (.dK kvs)) ∨ ∃ kvs, H p = some (.dT kvs))) ∨ (T = "set" ∧ ∃ S n, H p = some (.set S n))
  | _ => False
theorem tyV_is {pins : List (Addr × Obj)} {σ : St} {H : Hp} {s : Shared} {T : String} {x : V} {v : Value} (I : Inv X pins σ H s) (r : RelV x v) (ty : tyV X.K T x H) :
    s.TypeIs v T ∧ ∀ a, v = .ref a → ∃ ob, s.heap.get? a = some ob ∧ ob.dict = none := by
  cases x with
  | str z =>
    obtain ⟨t, rfl⟩ := r
    cases (show T = "str" from ty)
    exact ⟨typeIs_str s z t, fun _ e => nomatch e⟩
  | int i =>
    obtain ⟨t, rfl⟩ := r
    cases (show T = "int" from ty)
    exact ⟨typeIs_int s i t, fun _ e => nomatch e⟩
  | ref p =>
    cases r
    rcases ty with ⟨rfl, xs, hq⟩ | ⟨rfl, o, hk, hc, hd⟩ | ⟨rfl, hk⟩ | ⟨rfl, S, n, hk⟩
    · obtain ⟨its, _, pl, _⟩ := I.list hq
      refine ⟨pl.isList.typeIs, fun a e => ?_⟩
      cases e
      obtain ⟨o, n, e, c, hd, _⟩ := pl
      exact ⟨o, e, hd⟩
    · refine ⟨⟨o, I.kIn p o hk, hc⟩, fun a e => ?_⟩
      cases e
      exact ⟨o, I.kIn _ o hk, hd⟩
    · have z : ∃ o, s.heap.get? p = some o ∧ o.ExactDict := by
        rcases hk with ⟨kvs, hk⟩ | ⟨kvs, hk⟩
        · obtain ⟨_, _, _, _, o, _, _, e, ex, _⟩ := I.hok p _ hk
          exact ⟨o, e, ex⟩
        · obtain ⟨_, _, _, _, o, _, _, e, ex, _⟩ := I.hok p _ hk
          exact ⟨o, e, ex⟩
      obtain ⟨o, e, ex⟩ := z
      refine ⟨⟨o, e, ex.1⟩, fun a e2 => ?_⟩
      cases e2
      exact ⟨o, e, ex.2.1⟩
    · obtain ⟨o, _, _, _, e, ex, _⟩ := I.hok p _ hk
      refine ⟨⟨o, e, ex.1⟩, fun a e2 => ?_⟩
      cases e2
      exact ⟨o, e, ex.2.1⟩
  | _ => exact False.elim ty
def tBM0 (K : PySem.W.Frag) (T : String) (r : V → List V → Hp → VK → Prop) (to : TE) : TE := fun σ H Q => to σ H fun x H1 => tyV K T x H1 ∧ r x [] H1 Q
def tBM (K : PySem.W.Frag) (T : String) (r : V → List V → Hp → VK → Prop) (to : TE) (t : TA) : TE := fun σ H Q => to σ H fun x H1 => tyV K T x H1 ∧ t σ H1 fun xs H2 => r x xs H2 Q
variable {o e : Expr} {es : List Expr} {to : TE} {t : TA} {name : Str} {apos cpos : Pos} {T id : String} {r : V → List V → Hp → VK → Prop}
theorem pe_bm0 (pa : PlainAttrs T) (slot : Slot T name id) (hty : typeOf (.builtin id) = pure (.type "method_descriptor")) (hm : MtR X id r) (ho : PE X o to)
    (hbase : attributeBase o name X.env (eval o X.env) = eval o X.env := by rfl) (hline : (apos.endLine == cpos.line) = true := by rfl) : PE X (.Call (.Attribute o name apos) [] [] cpos) (tBM0 X.K T r to) := by
  intro pins s σ H Q I h
  refine wpAny_Call_method0_late hbase hline (thn (ho pins s σ H _ I h) fun v s1 ⟨x, H1, I1, r1, ty, q1⟩ => ?_)
  obtain ⟨h1, h2⟩ := tyV_is I1 r1 ty
  exact ⟨T, id, pa, slot, hty, h1, h2, Calls.callWith_builtin rfl (PySem.evalArgs_none (hm pins s1 σ H1 x [] v [] Q I1 r1 .nil q1))⟩
theorem pe_bm (pa : PlainAttrs T) (slot : Slot T name id) (hty : typeOf (.builtin id) = pure (.type "method_descriptor")) (hm : MtR X id r) (ho : PE X o to) (ha : PA X (e :: es) t)
    (hbase : attributeBase o name X.env (eval o X.env) = eval o X.env := by rfl)
    (hfew : ((backTo cpos (starEach (e :: es) X.env)).all (fun x => !x.1) && (backToKw cpos (keywordEach [] X.env)).all (fun x => x.1.isSome)
      && decide ((e :: es).length + ([] : List Keyword).length + (if ([] : List Keyword).isEmpty then 0 else 1) < 30)) = true := by rfl)
    (hline : (apos.endLine == cpos.line) = true := by rfl) (hs : starEach (e :: es) X.env = (false, eval e X.env) :: starEach es X.env := by rfl) (hplain : (backTo cpos (starEach es X.env)).any (·.1) = false := by rfl) :
    PE X (.Call (.Attribute o name apos) (e :: es) [] cpos) (tBM X.K T r to t) := by
  intro pins s σ H Q I h
  refine wpAny_Call_method_late hbase hfew hline rfl (thn (ho pins s σ H _ I h) fun v s1 ⟨x, H1, I1, r1, ty, q1⟩ => ?_)
  obtain ⟨h1, h2⟩ := tyV_is I1 r1 ty
  refine ⟨T, id, pa, slot, hty, h1, h2, ?_⟩
  have hA := ha cpos pins s1 σ H1 _ I1 q1
  rw [hs] at hA ⊢
  refine Calls.callWith_builtin (by show (false || (backTo cpos (starEach es X.env)).any (·.1)) = false; rw [hplain] <;> rfl) (Calls.evalArgs_plain ?_)
  exact thn hA fun us s2 ⟨vs, H2, I2, r2, q2⟩ => hm pins s2 σ H2 x vs v us Q I2 r1 r2 q2
/- xs.append(e), list.index on a module's tuple .. are MtR facts of 06m -/
end
end L2

namespace L2
open PySem PySem.Spec PyProof.Rows

def MtM (X : Cx) (id : String) (r : V → List V → Hp → VK → Prop) : Prop :=
  ∀ (pins : List (Addr × Obj)) (s : Shared) (σ : St) (H : Hp) (x : V) (xs : List V) (v : Value) (us : List Value) (Q : VK), Inv X pins σ H s → RelV x v → Vals xs us → r x xs H Q →
    wpAny (model X.prog X.w) X.A (call (.builtin id) (v :: us)) (EP X pins σ Q) X.xe s

/-! ### lists of values -/
theorem Vals.one : ∀ {x : V} {us : List Value}, Vals [x] us → ∃ u, us = [u] ∧ RelV x u
  | _, _, .cons r .nil => ⟨_, rfl, r⟩
theorem Vals.zero : ∀ {us : List Value}, Vals [] us → us = []
  | _, .nil => rfl
theorem Vals.dropLast {xs : List V} {us : List Value} (h : Vals xs us) : Vals xs.dropLast us.dropLast := by
  induction h with
  | nil => exact .nil
  | cons r t ih =>
    cases t with
    | nil => exact .nil
    | cons q t' => exact .cons r ih
theorem Vals.rep {xs : List V} {us : List Value} (h : Vals xs us) : ∀ k : Nat, Vals (List.replicate k xs).flatten (List.replicate k us).flatten
  | 0 => .nil
  | k + 1 => by
    rw [List.replicate_succ, List.replicate_succ, List.flatten_cons, List.flatten_cons]
    exact Vals.append h (Vals.rep h k)
theorem erase_last {α : Type} (l : List α) : l.eraseIdx (l.length - 1) = l.dropLast := by
  induction l with
  | nil => rfl
  | cons a r ih =>
    cases r with
    | nil => rfl
    | cons b r =>
      have e : (a :: b :: r).length - 1 = ((b :: r).length - 1) + 1 := by
        have h1 : (a :: b :: r).length = r.length + 2 := rfl
        have h2 : (b :: r).length = r.length + 1 := rfl
        omega
      rw [e, List.eraseIdx_cons_succ, ih]
      all_goals rfl
theorem foldl_rep (its : List Value) : ∀ (k : Nat) (acc : List Value),
    List.foldl (fun x1 x2 => x1 ++ x2) acc.toArray (List.replicate k its.toArray) = (acc ++ (List.replicate k its).flatten).toArray
  | 0, acc => by simp
  | k + 1, acc => by
    have e : acc.toArray ++ its.toArray = (acc ++ its).toArray := by simp
    have e2 : (acc ++ its) ++ (List.replicate k its).flatten = acc ++ (List.replicate (k + 1) its).flatten := by
      rw [List.replicate_succ, List.flatten_cons, List.append_assoc]
    rw [← e2, ← foldl_rep its k (acc ++ its), ← e, List.replicate_succ, List.foldl_cons]

section
variable {X : Cx} {pins : List (Addr × Obj)} {σ : St} {H : Hp} {s : Shared} {l b : Addr} {xs ys zs : List V}

/-! ### the two steps: a tracked list is rewritten, a new list is laid -/
theorem Inv.lset {its its' : List Value} {n : Nat} {f : Array Value → Array Value} {t' : Nat} (I : Inv X pins σ H s) (hH : H l = some (.lst xs))
    (e : s.heap.get? l = some { cls := .type "list", data := .seq its.toArray n }) (hf : f its.toArray = its'.toArray) (hv : Vals ys its') (hz : ys.length ≤ sizeLine) :
    Inv X pins σ (upd H l (.lst ys)) { s with heap := s.heap.update l (Obj.mapSeq f), toks := t' } := by
  have q := PySem.IsL.update e f
  rw [hf] at q
  refine I.write (x := l) (e := l) (by rw [hH]; exact trivial) (.inl rfl) (fun b' u hb hu => (Heap.get?_update_other s.heap (Obj.mapSeq f) (Ne.symm hb)).trans hu) ⟨_, q⟩ ?_
  exact ⟨hz, its', _, hv, q⟩
theorem Inv.lnew {its : List Value} {t' : Nat} (I : Inv X pins σ H s) (hv : Vals ys its) (hz : ys.length ≤ sizeLine) :
    Inv X pins σ (upd H s.heap.objs.size (.lst ys)) { s with heap := s.heap.push { cls := .type "list", data := .seq its.toArray }, toks := t' } :=
  I.laid (fun _ _ q => Heap.get?_push_of_some _ q) (Nat.le_refl _) ⟨hz, its, 0, hv, Heap.get?_push_size _ rfl⟩
theorem Inv.fresh (I : Inv X pins σ H s) : H s.heap.objs.size = none := I.hok.fresh (Nat.le_refl _)
theorem Inv.lstM (I : Inv X pins σ H s) (hH : H l = some (.lst xs)) : xs.length ≤ sizeLine ∧ ∃ (its : List Value) (n : Nat), Vals xs its ∧ xs.length = its.length ∧ s.heap.get? l = some { cls := .type "list", data := .seq its.toArray n } := by
  obtain ⟨z, its, n, r, e⟩ := I.hok l _ hH
  exact ⟨z, its, n, r, r.length, e⟩

theorem notLongL {n : Nat} (h : n ≤ sizeLine) : Builtin.List.listTooLong n = false := by
  unfold Builtin.List.listTooLong
  exact decide_eq_false (by omega)
end

section
variable {X : Cx}

/-! ### methods -/
def rAppend : V → List V → Hp → VK → Prop := fun x vs H Q => ∃ l xs y, x = .ref l ∧ vs = [y] ∧ H l = some (.lst xs) ∧ xs.length < sizeLine ∧ Q .non (upd H l (.lst (xs ++ [y])))
theorem mt_append : MtM X "list.append" rAppend := by
  intro pins s σ H x vs v us Q I rx rv h
  obtain ⟨l, xs, y, rfl, rfl, hH, hz, q⟩ := h
  cases rx
  obtain ⟨u, rfl, ru⟩ := rv.one
  obtain ⟨z, its, n, r, hl, e⟩ := I.lstM hH
  refine call_meets F.slot_list_append ⟨_, e, rfl⟩ F.entry_list_append (F.args_list_append_2 _ _) (PySem.list_append l its.toArray n u (by rw [List.size_toArray]; omega)) ⟨e, ?_⟩
  refine ⟨.non, _, I.lset (its' := its ++ [u]) hH e (by simp) (r.append (.cons ru .nil)) ?_, rfl, q⟩
  rw [List.length_append, List.length_singleton]
  omega

def rExtend : V → List V → Hp → VK → Prop := fun x vs H Q => ∃ l b xs zs, x = .ref l ∧ vs = [.ref b] ∧ H l = some (.lst xs) ∧ H b = some (.lst zs) ∧ xs.length + zs.length ≤ sizeLine ∧ Q .non (upd H l (.lst (xs ++ zs)))
theorem mt_extend : MtM X "list.extend" rExtend := by
  intro pins s σ H x vs v us Q I rx rv h
  obtain ⟨l, b, xs, zs, rfl, rfl, hH, hB, hz, q⟩ := h
  cases rx
  obtain ⟨u, rfl, ru⟩ := rv.one
  cases ru
  obtain ⟨z, its, n, r, hl, e⟩ := I.lstM hH
  obtain ⟨z2, its2, n2, r2, hl2, e2⟩ := I.lstM hB
  have hsz : its.toArray.size + its2.toArray.size ≤ sizeLine := by rw [List.size_toArray, List.size_toArray]; omega
  have hlong : ¬ (!its.toArray.isEmpty && Builtin.List.listTooLong (its.toArray.size + its2.toArray.size)) = true := by
    rw [notLongL hsz, Bool.and_false]
    exact Bool.false_ne_true
  refine call_meets F.slot_list_extend ⟨_, e, rfl⟩ F.entry_list_extend (F.args_list_extend_2 _ _)
    (AutoSeq1.list_extend_list_list_0 l its.toArray n b its2.toArray n2 hlong (by rw [List.size_toArray]; omega) (by omega)) ⟨e, e2, ?_⟩
  refine ⟨.non, _, I.lset (its' := its ++ its2) hH e (by simp) (r.append r2) ?_, rfl, q⟩
  rw [List.length_append]
  omega

def rPop : V → List V → Hp → VK → Prop := fun x vs H Q => ∃ l xs y, x = .ref l ∧ vs = [] ∧ H l = some (.lst xs) ∧ xs[xs.length - 1]? = some y ∧ Q y (upd H l (.lst xs.dropLast))
theorem mt_pop : MtM X "list.pop" rPop := by
  intro pins s σ H x vs v us Q I rx rv h
  obtain ⟨l, xs, y, rfl, rfl, hH, hy, q⟩ := h
  cases rx
  have hus := rv.zero
  subst hus
  obtain ⟨z, its, n, r, hl, e⟩ := I.lstM hH
  obtain ⟨u, hu, ru⟩ := r.get hy
  have hy' : its.toArray[its.toArray.size - 1]? = some u := by
    show its.toArray[its.length - 1]? = some u
    rw [← Array.getElem?_toList, ← hl]
    exact hu
  refine call_meets F.slot_list_pop ⟨_, e, rfl⟩ F.entry_list_pop (F.args_list_pop_1 _) (MeetsSeq.list_pop_last l its.toArray n u hy' (by rw [List.size_toArray]; omega)) ⟨e, ?_⟩
  refine ⟨y, _, I.lset (its' := its.dropLast) hH e ?_ r.dropLast ?_, ru, q⟩
  · show its.toArray.eraseIdxIfInBounds (its.toArray.size - 1) = its.dropLast.toArray
    rw [List.size_toArray, List.eraseIdxIfInBounds_toArray, erase_last]
  · rw [List.length_dropLast]
    omega

def rPopAt : V → List V → Hp → VK → Prop := fun x vs H Q => ∃ l xs i k y, x = .ref l ∧ vs = [.int i] ∧ H l = some (.lst xs) ∧ -(2 ^ 63) ≤ i ∧ i < 2 ^ 63 ∧ seqIndex? i xs.length = some k ∧ xs[k]? = some y ∧ Q y (upd H l (.lst (xs.eraseIdx k)))
def rReverse : V → List V → Hp → VK → Prop := fun x vs H Q => ∃ l xs, x = .ref l ∧ vs = [] ∧ H l = some (.lst xs) ∧ Q .non (upd H l (.lst xs.reverse))
def rClear : V → List V → Hp → VK → Prop := fun x vs H Q => ∃ l xs, x = .ref l ∧ vs = [] ∧ H l = some (.lst xs) ∧ Q .non (upd H l (.lst []))
/-! ### list + list, list += list, list * int -/
def rCat : R2 := fun x y H Q => ∃ l b xs zs, x = .ref l ∧ y = .ref b ∧ H l = some (.lst xs) ∧ H b = some (.lst zs) ∧ xs.length + zs.length ≤ sizeLine ∧ ∀ p, H p = none → Q (.ref p) (upd H p (.lst (xs ++ zs)))
theorem op_cat : OpR X (binaryOp .Add) rCat := by
  intro pins s σ H x y v u Q I rx ry h
  obtain ⟨l, b, xs, zs, rfl, rfl, hH, hB, hz, q⟩ := h
  cases rx
  cases ry
  obtain ⟨z, its, n, r, hl, e⟩ := I.lstM hH
  obtain ⟨z2, its2, n2, r2, hl2, e2⟩ := I.lstM hB
  refine PySem.P.add_list e e2 ?_ (by rw [List.size_toArray, List.size_toArray]; omega)
  have ea : its.toArray ++ its2.toArray = (its ++ its2).toArray := by simp
  rw [ea]
  exact ⟨.ref _, _, I.lnew (t' := s.toks) (r.append r2) (by rw [List.length_append]; omega), rfl, q _ I.fresh⟩
/-- a list times an int (a negative one is nothing) -/
def rRep : R2 := fun x y H Q => ∃ l k xs, x = .ref l ∧ y = .int k ∧ H l = some (.lst xs) ∧ -(2 ^ 63) ≤ k ∧ k < 2 ^ 63 ∧ xs.length * k.toNat ≤ sizeLine ∧
  ∀ p, H p = none → Q (.ref p) (upd H p (.lst (List.replicate k.toNat xs).flatten))
theorem len_rep {α : Type} (xs : List α) (k : Nat) : (List.replicate k xs).flatten.length = k * xs.length := by
  induction k with
  | zero => simp
  | succ k ih => rw [List.replicate_succ, List.flatten_cons, List.length_append, ih, Nat.succ_mul, Nat.add_comm]
theorem op_rep : OpR X (binaryOp .Mult) rRep := by
  intro pins s σ H x y v u Q I rx ry h
  obtain ⟨l, k, xs, rfl, rfl, hH, h1, h2, hz, q⟩ := h
  cases rx
  obtain ⟨t, rfl⟩ := ry
  obtain ⟨z, its, n, r, hl, e⟩ := I.lstM hH
  have hlen : its.toArray.size * k.toNat ≤ sizeLine := by rw [List.size_toArray, ← hl]; exact hz
  have hcap : ¬ its.toArray.size * k.toNat > (2 ^ 63 - 1) / 8 := by
    have : (sizeLine : Nat) ≤ (2 ^ 63 - 1) / 8 := by decide
    omega
  have hfit : ¬ (!Builtin.List.listFitsIndex k) = true := by
    rw [fitsIndex_both h1 h2]
    exact Bool.false_ne_true
  have hlong : ¬ Builtin.List.listTooLong (its.toArray.size * k.toNat) = true := by
    rw [notLongL hlen]
    exact Bool.false_ne_true
  have hnew : List.foldl (fun x1 x2 => x1 ++ x2) #[] (List.replicate (if its.toArray.isEmpty = true then 0 else k.toNat) its.toArray) = (List.replicate k.toNat its).flatten.toArray := by
    have f0 : ∀ m : Nat, List.foldl (fun x1 x2 => x1 ++ x2) #[] (List.replicate m its.toArray) = (List.replicate m its).flatten.toArray := fun m => by
      have := foldl_rep its m []
      rw [List.nil_append] at this
      exact this
    rw [f0]
    cases its with
    | nil => simp
    | cons a r' => rw [if_neg (by simp)]
  refine wpAny_binaryOp_repeat_ref (T := "list") (U := "int") (by decide) ⟨_, e, rfl⟩ (fun s' => typeIs_int s' k t) noFill_list_mul F.fills_int_mul F.slot_int_rmul repeat_list F.slot_int_index.lookup
    (call_meets F.slot_int_rmul (typeIs_int s k t) F.entry_int_rmul (F.args_int_rmul_2 _ _) (int___rmul___int_list k t l its.toArray n)
      ⟨e, rfl, ⟨_, e, rfl⟩, call_meets F.slot_list_mul ⟨_, e, rfl⟩ F.entry_list_mul (F.args_list_mul_2 _ _) (AutoListH.list___mul___list_int_3 l its.toArray n k t hfit hcap hlong) ⟨e, ?_⟩⟩)
  rw [hnew]
  exact ⟨.ref _, _, I.lnew (t' := s.toks) (r.rep k.toNat) (by rw [len_rep, Nat.mul_comm]; exact hz), rfl, q _ I.fresh⟩

/-! ### del xs[i] -/
end

/-! ### xs[a:b] = ys -/
section
variable {prog : Program} {w : World} {A : Around} {E : Value → Shared → Prop} {s : Shared}
set_option maxRecDepth 100000 in
end

section
variable {X : Cx}
end
end L2

namespace Att
open PySem PySem.W PySem.Calls PyProof.Rows

/-! ### the script -/
theorem ints_of_wellAll {P : Params} {h : Heap} : ∀ (ns : List Int) (vs : List Value), WellAll P h vs (ns.map WData.int) → IntsAre vs ns := by
  intro ns
  induction ns with
  | nil =>
    intro vs w
    rw [List.map_nil] at w
    cases w
    exact .nil
  | cons n ns ih =>
    intro vs w
    rw [List.map_cons] at w
    cases w with
    | cons a b =>
      cases a
      exact .cons _ _ (ih _ b)

theorem script_of {l : OpenLaw} {n : Nat} (hn : l.most = some n) {P : Params} {h : Heap} {args : List WData} {vals : List Value}
    (hpre : l.row.toRowW.claim.pre args = true) (hwl : WellAll P h vals args) :
    ∃ a vs ns, vals = [Value.ref a] ∧ args = [WData.list (ns.map WData.int)] ∧ h.get? a = some { cls := .type "list", data := .seq vs.toArray } ∧ IntsAre vs ns ∧ ns.length ≤ n := by
  have hsh : WShape.hasAll [] args [.list .int] = true := (pre_splitW hpre).1
  have hc : l.pre.holds [] { args := args } = true := (pre_splitW hpre).2
  obtain ⟨d, r, rfl, h1, h2⟩ := hasAllW_cons hsh
  obtain rfl := hasAllW_nil h2
  obtain ⟨xs, rfl, h3⟩ := hasW_list h1
  obtain ⟨ns, rfl⟩ := items_int h3
  have hlen : ns.length ≤ n := by
    unfold OpenLaw.pre at hc
    have h4 : (WTm.not (.lt (.lit (.int (n : Int))) (.len (.arg 0)))).holds [] { args := [.list (ns.map .int)] } = true := by
      have h4 := (holds_andW hc).1
      rw [hn] at h4
      exact h4
    have h5 := condW_of h4 (w_not (w_lt w_lit (w_len_list (w_arg rfl))))
    rw [List.length_map] at h5
    refine Nat.le_of_not_lt fun q => ?_
    have q' : (n : Int) < ((ns.length : Nat) : Int) := by omega
    first
      | (rw [decide_eq_true q'] at h5; exact absurd h5 (by decide))
      | (simp at h5; omega)
  cases hwl with
  | cons w1 w2 =>
    cases w2
    cases w1 with
    | list ho hall => exact ⟨_, _, ns, rfl, rfl, ho, ints_of_wellAll ns _ hall, hlen⟩

theorem post_true (l : OpenLaw) (args : List WData) : l.row.toRowW.claim.post args (.bool true) args = true :=
  postW_of (r := l.row.toRowW) (X := (true == true))
    (show WShape.has [] (.bool true) .bool = true by first | rfl | decide | simp [WShape.has, WShape.arms, WShape.armsAll])
    (show (WTm.eq .res (.lit (.bool true))).value [] { args := args, res := some (.bool true), after := args } = some (.bool (true == true)) from w_eq_bool (w_res rfl) w_lit) rfl

/-! ### the attachment: holds_open's last premise (the goal 'hc' behind k_head) from a wpAny of the law's body -/
/-- the same from a codeAny of the CALL (for a layer whose function contracts speak of calls) -/
theorem attach_call {l : OpenLaw} {n : Nat} {q : Program} {loose : List Str} {XP : (Str → Option Value) → Heap → Prop} {YP : World → Heap → Prop} {d : DefRec}
    (hn : l.most = some n) (hdf : d.params.defaults = [])
    (call : ∀ (w : World) (s₀ s₁ : Shared) (mg mb : Str → Option Value) (fa : Addr) (o : Obj) (pm cd doc : Value) (a : Addr) (vs : List Value) (ns : List Int),
      Ground q loose [] XP w s₀ mg mb s₁.heap → YP w s₁.heap →
      s₁.heap.get? fa = some o → o.data = .func (docDef d.name d.params d.body d.scope pm cd doc) → s₁.heap.CodeRec cd d.name → mg d.name = some (.ref fa) →
      s₁.heap.get? a = some { cls := .type "list", data := .seq vs.toArray } → IntsAre vs ns → ns.length ≤ n → s₁.gens = #[] →
      codeAny (model l.prog w) callerA (.call (.ref fa) ⟨[.ref a], []⟩) (fun r s' => r = .ok (.ret (.bool true)) ∧ OldK s₁.heap s'.heap ∧ s'.os = s₁.os ∧ AllBare s'.gens) s₁) :
    WalkO q loose XP YP l.row.toRowW d [] (fun f vs => PySem.call f vs) := by
  intro w s₀ s₁ mg mb G Y fa o pm cd doc dV kV ho hd hcd hD hmg hg args vals as hpre hlay hrd hwl hlo
  obtain rfl : dV = .none := Dflts.none hD hdf
  obtain rfl : kV = .none := Dflts.noKw hD
  obtain ⟨a, vs, ns, rfl, rfl, hobj, hints, hlen⟩ := script_of hn hpre hwl
  refine enter_call (codeAny_mono (call w s₀ s₁ mg mb fa o pm cd doc a vs ns G Y ho (fd_plain hd) hcd hmg hobj hints hlen hg) fun r s' hq => ?_)
  obtain ⟨rfl, h2, h3, h4⟩ := hq
  exact ⟨.inl ⟨.bool true, .bool true, [], rfl, fun _ => rfl, .bool true, post_true l _, fun _ => ⟨List.Pairwise.nil, fun _ hm => (nomatch hm)⟩⟩, h2, h3, h4⟩

/-! ### rules over ANY heap (no ledger) from facts about the written part K: the library's own take a ledger (News) for what they write -/
section
variable {prog : Program} {w : World} {A : Around} {E : Value → Shared → Prop} {s : Shared} {K : Frag}

/-! the whole heap as the ledger: makes every rule that writes through a ledger a rule over any heap -/
def noObjs (h : Heap) : Heap := { h with objs := #[] }
def ledger (h : Heap) (L d : Addr) : List (Addr × Obj) := (List.range h.objs.size).filterMap fun a => if a = L ∨ a = d then none else (h.get? a).map fun o => (a, o)
end
end Att

namespace L2
open PySem PySem.Spec PyProof.Rows

theorem vals_ints : ∀ {vs : List Value} {ns : List Int}, IntsAre vs ns → Vals (ns.map V.int) vs
  | _, _, .nil => .nil
  | _, _, .cons n t h => .cons ⟨t, rfl⟩ (vals_ints h)

/-- nothing is tracked but the script, known to the object (or it is an object of the module) -/
def Only (H : Hp) : Prop := ∀ b, H b = none ∨ ∃ o xs, H b = some (.frz o (.lst xs))

end L2

namespace L2
open PySem PySem.Spec PyProof.Rows

abbrev KOf {K : PySem.W.Frag} {h : Heap} (_ : K.In h) : PySem.W.Frag := K

end L2

/- THE LAST THEOREM (shape; LID, My.* are yours):
   My.Adr: a structure of the addresses that your layer names (classes, functions); My.Txt K t: a structure (Prop) of the equations over K;
   My.txt_mk : {K} {implicit addresses ..} (e1 : nsIn K mainGlobals "law" = some (some (.ref f))) (e2 : K.lookup f = some ⟨oc, od, .func (fnOf "law" "law" params body scope dV kV doc pm an cdv ct), sl⟩) (e3 : codeIn K cdv "law" = true) .. : ∃ t, My.Txt K t

set_option maxRecDepth 100000 in
set_option maxHeartbeats 0 in
theorem PySem.Challenge.cw_LID_holds : PySem.Challenge.rw_LID.Holds := by
  w_on; o_law; k_head; (case hw => w_witness2)
  k_fill
  refine L2.walk_of (l := PySem.Challenge.rw_LID) (n := 63) (k := 40) (x := "script") (CX := fun w => ..) (sp := fun _ => My.sp_law) rfl (by decide) rfl ⟨rfl, by decide, by decide⟩ (fun w h Y => PySem.W.kIn_of Y) ?F ?S ?C
  case F =>
    intro w mg fa h KX G hmg
    have T : ∃ t, My.Txt (L2.KOf KX) t := by
      dsimp only [L2.KOf]                          -- K must stand as «<heap const> w.params» for k_is
      refine' My.txt_mk ?e1 ?e2 ?e3 ..
      (case e1 => PySem.W.k_is)                    -- in the order: a name -> its address -> its object -> its parts
      (case e2 => PySem.W.k_is)
      ..
    obtain ⟨t, T⟩ := T
    have e0 := hmg.symm.trans (PySem.W.mg_of KX G T.law)
    cases e0                                       -- fa is the law's own address
    exact ⟨_, fun s u => .of_eq rfl, fun base kb nb => My.law_fn T kb nb⟩     -- if «.of_eq rfl» comes too early: refine' ⟨_, ?b, fun base kb nb => My.law_fn T kb nb⟩; exact fun s u => .of_eq rfl
  case S => exact fun w H a ns hl hO hS => ..
  case C => exact ..
(the tactic k_is has no namespace: write k_is) -/

/-! SHORT WORDS over the layer: a def of the text, its body, what a loop and a test want. -/
namespace L2
open PySem PySem.Spec PyProof.Rows

/-! ### the text by places -/
/-- the j-th statement of a class's body -/
def inClass (s : Stmt) (j : Nat) : Stmt := match s with
  | .ClassDef _ _ _ body _ _ _ _ _ _ _ => body.getD j (.Pass ⟨0, 0, 0, 0⟩)
  | _ => .Pass ⟨0, 0, 0, 0⟩
def defArgs (s : Stmt) : Arguments := match s with
  | .FunctionDef _ a _ _ _ _ _ _ _ _ => a
  | _ => { posonlyargs := [], args := [], vararg := none, kwonlyargs := [], kw_defaults := [], kwarg := none, defaults := [] }
def defBody (s : Stmt) : List Stmt := match s with
  | .FunctionDef _ _ b _ _ _ _ _ _ _ => b
  | _ => []
def defScope (s : Stmt) : Scope := match s with
  | .FunctionDef _ _ _ _ _ _ sc _ _ _ => sc
  | _ => { kind := .function, names := [], isGenerator := false, isCoroutine := false }

/-! ### no exception leaves a def -/
abbrev CX0 : CXT := fun _ _ _ _ _ _ => False
abbrev E0 : XK := fun _ _ _ => False
theorem pass0 {X : Cx} : Passes CX0 X E0 := fun _ _ _ _ _ _ _ h => h.elim

/-! ### a def (or method) of the text as it stands behind the top -/
structure Fun (K : PySem.W.Frag) (x qual : Str) (st : Stmt) (f : Addr) (fd : FuncData) : Prop where
  ex : ∃ (oc : Value) (od : Option Addr) (kV doc pm : Value) (an : Option Addr) (cdv ct : Value) (osl : Array (Option Value)),
    fd = PySem.W.fnOf x qual (defArgs st) (defBody st) (defScope st) .none kV doc pm an cdv ct ∧ K.lookup f = some ⟨oc, od, .func fd, osl⟩ ∧ PySem.W.codeIn K cdv qual = true
  kp : PySem.W.keepIn K (.ref f) = true
section
variable {P : Program} {w : World} {K : PySem.W.Frag} {mg : Str → Option Value} {base : Heap}
/-- THE RULE for a def: its body as a term of rules, and the reading of that term -/
theorem Fun.ok {x qual : Str} {st : Stmt} {f : Addr} {fd : FuncData} {N ps : List Str} {k : Nat} {sp : Sp} (F : Fun K x qual st f fd) (S : FnScope N ps (defScope st)) (len : ∀ vs H Q E, sp vs H Q E → vs.length = ps.length)
    (hbody : ∀ (cdv : Value) (A : Around) (outer : List Env) (s : Shared) (H : Hp) (vs : List V) (Q : VK) (E : XK), Room k (A.deeper (envOfC qual (defScope st) s.heap.objs.size f cdv)) → sp vs H Q E →
      ∃ t, PSs (cxOf CX0 P w K mg base N qual (defScope st) f cdv A outer s H E).nox (defBody st) t ∧ t { nx := fun _ H' => Q .non H', rt := Q } (start N vs) H) : FnOk P w K mg base CX0 (k + 1) f fd ps sp := by
  obtain ⟨oc, od, kV, doc, pm, an, cdv, ct, osl, rfl, lk, hcd⟩ := F.ex
  refine fn_of lk hcd S len fun A outer s H vs Q E hr hsp => ?_
  obtain ⟨t, h, q⟩ := hbody cdv A outer s H vs Q E hr hsp
  exact ⟨t, h.nox, q⟩
/-- how its arguments bind (no defaults): h is «fun _ _ _ _ _ _ us hl => match us, hl with | [_, _], _ => rfl», one _ a parameter -/
theorem Fun.binds {x qual : Str} {st : Stmt} {f : Addr} {fd : FuncData} {ps : List Str} (F : Fun K x qual st f fd)
    (h : ∀ (kV doc pm : Value) (an : Option Addr) (cdv ct : Value) (us : List Value), us.length = ps.length → bindArgs (PySem.W.fnOf x qual (defArgs st) (defBody st) (defScope st) .none kV doc pm an cdv ct) ⟨us, []⟩ = pure (ps.zip us)) : Binds K fd ps [] := by
  obtain ⟨oc, od, kV, doc, pm, an, cdv, ct, osl, rfl, lk, hcd⟩ := F.ex
  exact .all (h kV doc pm an cdv ct)
theorem fun_mk {x qual : Str} {st : Stmt} {f : Addr} {oc : Value} {od an : Option Addr} {osl : Array (Option Value)} {kV doc pm cdv ct : Value} (l : K.lookup f = some ⟨oc, od, .func (PySem.W.fnOf x qual (defArgs st) (defBody st) (defScope st) .none kV doc pm an cdv ct), osl⟩)
    (c : PySem.W.codeIn K cdv qual = true) (k : PySem.W.keepIn K (.ref f) = true) : Fun K x qual st f (PySem.W.fnOf x qual (defArgs st) (defBody st) (defScope st) .none kV doc pm an cdv ct) := ⟨⟨oc, od, kV, doc, pm, an, cdv, ct, osl, rfl, l, c⟩, k⟩
end
theorem hu_of {A : Around} {k : Nat} (hr : Room k A) : A.units + 1 < cLine := Nat.lt_of_le_of_lt (Nat.add_le_add_left (by decide : 1 ≤ 64) _) hr.units
theorem small1000 {n : Nat} (h : n ≤ 1000) : n < sizeLine := Nat.lt_of_le_of_lt h (by decide)

/-! ### expressions in short: the name that stands in the i-th slot -/
section
variable {X : Cx}
theorem pv (i : Nat) {x : Str} {pos : Pos} (hN : X.N[i]? = some x := by rfl) (hv : Vis X.env.scope x := by first | exact Or.inl rfl | exact Or.inr (Or.inl rfl) | exact Or.inr (Or.inr rfl)) (hd : (x == ("__debug__" : Str)) = false := by decide)
    (hcd : (x == ("__classdict__" : Str)) = false := by decide) : PE X (.Name x pos) (tVar i) := pe_var hN hv hd hcd
end

/-! ### tests -/
theorem iteF {A B : Prop} (h : B) : if false = true then A else B := by
  rw [if_neg Bool.false_ne_true]
  exact h
theorem iteT {A B : Prop} (h : A) : if true = true then A else B := by
  rw [if_pos rfl]
  exact h
theorem ite2 {c A B : Prop} [Decidable c] (h1 : c → A) (h2 : ¬ c → B) : if c then A else B := by
  by_cases h : c
  · rw [if_pos h]
    exact h1 h
  · rw [if_neg h]
    exact h2 h
/-! ### heaps -/
/-- all that was tracked is as it was -/
def Same (H H' : Hp) : Prop := ∀ b o, H b = some o → H' b = some o
theorem Same.refl (H : Hp) : Same H H := fun _ _ h => h
theorem Same.trans {H H1 H2 : Hp} (a : Same H H1) (b : Same H1 H2) : Same H H2 := fun c o h => b c o (a c o h)
theorem Same.seq {K : PySem.W.Frag} {H H' : Hp} {a : Addr} {xs : List V} (e : Same H H') (h : SqL K H a xs) : SqL K H' a xs := by
  rcases h with (h | ⟨o, h⟩) | h
  · exact .inl (.inl (e _ _ h))
  · exact .inl (.inr ⟨o, e _ _ h⟩)
  · exact .inr h

end L2

namespace GM
/-- the greatest common divisor, as an int -/
def G (a b : Int) : Int := (Int.gcd a b : Int)
/-- an amount in lowest terms -/
structure Amt (t b : Int) : Prop where
  t0 : 0 ≤ t
  b1 : 1 ≤ b
  g : G t b = 1
end GM

namespace L2
open PySem PySem.Spec PyProof.Rows
/-! ### isinstance against a built-in type -/
inductive Isi (K : PySem.W.Frag) (H : Hp) : V → String → Bool → Prop where
  | int_int {n} : Isi K H (.int n) "int" true
  | int_bool {n} : Isi K H (.int n) "bool" false
  | int_tuple {n} : Isi K H (.int n) "tuple" false
  | int_str {n} : Isi K H (.int n) "str" false
  | int_list {n} : Isi K H (.int n) "list" false
  | bl_int {b} : Isi K H (.bl b) "int" true
  | bl_bool {b} : Isi K H (.bl b) "bool" true
  | bl_tuple {b} : Isi K H (.bl b) "tuple" false
  | bl_str {b} : Isi K H (.bl b) "str" false
  | str_int {x} : Isi K H (.str x) "int" false
  | str_bool {x} : Isi K H (.str x) "bool" false
  | str_tuple {x} : Isi K H (.str x) "tuple" false
  | str_str {x} : Isi K H (.str x) "str" true
  | non_int : Isi K H .non "int" false
  | non_str : Isi K H .non "str" false
  | non_tuple : Isi K H .non "tuple" false
  | tup_tuple {a xs} : SqT K H a xs → Isi K H (.ref a) "tuple" true
  | tup_int {a xs} : SqT K H a xs → Isi K H (.ref a) "int" false
  | tup_str {a xs} : SqT K H a xs → Isi K H (.ref a) "str" false
  | tup_list {a xs} : SqT K H a xs → Isi K H (.ref a) "list" false
  | lst_tuple {a xs} : SqL K H a xs → Isi K H (.ref a) "tuple" false
  | lst_int {a xs} : SqL K H a xs → Isi K H (.ref a) "int" false
  | lst_str {a xs} : SqL K H a xs → Isi K H (.ref a) "str" false
  | lst_list {a xs} : SqL K H a xs → Isi K H (.ref a) "list" true
section
variable {X : Cx}
theorem call_isi : CallR X (.builtin "isinstance") (fun xs H Q => ∃ x T b, xs = [x, .ty T] ∧ Isi X.K H x T b ∧ Q (.bl b) H) := by
  intro pins s σ H xs us Q I r h
  obtain ⟨x, T, b, rfl, hi, q⟩ := h
  obtain ⟨u, w', rfl, rx, ry⟩ := vals2 r
  cases ry
  have f1 : EP X pins σ Q (.bool b) s := ⟨.bl b, H, I, rfl, q⟩
  have f2 : EP X pins σ Q (.bool b) { s with toks := s.toks + 1 } := ⟨.bl b, H, I.tok _, rfl, q⟩
  cases hi with
  | int_int => obtain ⟨t, rfl⟩ := rx; exact IsiPair.int_int f1
  | int_bool => obtain ⟨t, rfl⟩ := rx; exact IsiPair.int_bool f2
  | int_tuple => obtain ⟨t, rfl⟩ := rx; exact IsiPair.int_tuple f2
  | int_str => obtain ⟨t, rfl⟩ := rx; exact IsiPair.int_str f2
  | int_list => obtain ⟨t, rfl⟩ := rx; exact IsiPair.int_list f2
  | bl_int => cases rx; exact IsiPair.bool_int f1
  | bl_bool => cases rx; exact IsiPair.bool_bool f1
  | bl_tuple => cases rx; exact IsiPair.bool_tuple f2
  | bl_str => cases rx; exact IsiPair.bool_str f2
  | str_int => obtain ⟨t, rfl⟩ := rx; exact IsiPair.str_int f2
  | str_bool => obtain ⟨t, rfl⟩ := rx; exact IsiPair.str_bool f2
  | str_tuple => obtain ⟨t, rfl⟩ := rx; exact IsiPair.str_tuple f2
  | str_str => obtain ⟨t, rfl⟩ := rx; exact IsiPair.str_str f1
  | non_int => cases rx; exact IsiPair.NoneType_int f2
  | non_str => cases rx; exact IsiPair.NoneType_str f2
  | non_tuple => cases rx; exact IsiPair.NoneType_tuple f2
  | tup_tuple hq => cases rx; obtain ⟨its, _, ⟨o, e, c, _⟩, _⟩ := I.tuple hq; exact IsiPair.tuple_tuple e c f1
  | tup_int hq => cases rx; obtain ⟨its, _, ⟨o, e, c, _⟩, _⟩ := I.tuple hq; exact IsiPair.tuple_int e c f2
  | tup_str hq => cases rx; obtain ⟨its, _, ⟨o, e, c, _⟩, _⟩ := I.tuple hq; exact IsiPair.tuple_str e c f2
  | tup_list hq => cases rx; obtain ⟨its, _, ⟨o, e, c, _⟩, _⟩ := I.tuple hq; exact IsiPair.tuple_list e c f2
  | lst_tuple hq => cases rx; obtain ⟨its, _, ⟨o, n, e, c, _⟩, _⟩ := I.list hq; exact IsiPair.list_tuple e c f2
  | lst_int hq => cases rx; obtain ⟨its, _, ⟨o, n, e, c, _⟩, _⟩ := I.list hq; exact IsiPair.list_int e c f2
  | lst_str hq => cases rx; obtain ⟨its, _, ⟨o, n, e, c, _⟩, _⟩ := I.list hq; exact IsiPair.list_str e c f2
  | lst_list hq => cases rx; obtain ⟨its, _, ⟨o, n, e, c, _⟩, _⟩ := I.list hq; exact IsiPair.list_list e c f1
/-! ### is, is not of bools -/
/-! ### == and != of tuples, at any depth: what the comparison tells -/
inductive DEq (K : PySem.W.Frag) (H : Hp) : Nat → V → V → Bool → Prop where
  | flat {n x y} : flatV x = true → flatV y = true → DEq K H n x y (eqV x y)
  | same {n a} : DEq K H n (.ref a) (.ref a) true
  | tup {n a b xs ys} {e : Nat → Bool} : a ≠ b → SqT K H a xs → SqT K H b ys → (∀ (j : Nat) x y, xs[j]? = some x → ys[j]? = some y → DEq K H n x y (e j)) →
      DEq K H (n + 1) (.ref a) (.ref b) ((List.range (min xs.length ys.length)).all e && xs.length == ys.length)
  | lst {n a b xs ys} {e : Nat → Bool} : a ≠ b → SqL K H a xs → SqL K H b ys → (∀ (j : Nat) x y, xs[j]? = some x → ys[j]? = some y → DEq K H n x y (e j)) →
      DEq K H (n + 1) (.ref a) (.ref b) ((List.range (min xs.length ys.length)).all e && xs.length == ys.length)
theorem isList_of {h : Heap} {a : Addr} {its : Array Value} (p : PlainL h a its) : h.IsList a its := by
  obtain ⟨o, n, e, c, _, d⟩ := p
  exact ⟨o, e, c, n, d⟩
/-- == of two tuples; the items' answers e -/
def rEqT (K : PySem.W.Frag) : R2 := fun x y H Q => ∃ a b xs ys, ∃ e : Nat → Bool, x = .ref a ∧ y = .ref b ∧ SqT K H a xs ∧ SqT K H b ys ∧ (∀ (j : Nat) x y, xs[j]? = some x → ys[j]? = some y → DEq K H 40 x y (e j)) ∧
  Q (.bl ((List.range (min xs.length ys.length)).all e && xs.length == ys.length)) H
def rNeT (K : PySem.W.Frag) : R2 := fun x y H Q => ∃ a b xs ys, ∃ e : Nat → Bool, x = .ref a ∧ y = .ref b ∧ SqT K H a xs ∧ SqT K H b ys ∧ (∀ (j : Nat) x y, xs[j]? = some x → ys[j]? = some y → DEq K H 40 x y (e j)) ∧
  Q (.bl (!((List.range (min xs.length ys.length)).all e && xs.length == ys.length))) H
end
end L2

namespace L2
open PySem PySem.Spec PyProof.Rows
/-! ### a list comprehension of one clause -/
/-- the loop of a comprehension, a turn at a time -/
theorem compLoop_gen {prog : Program} {w : World} {A : Around} {R : Result → Shared → Prop} {s : Shared} {elt target iter : Expr} {ifs : List Expr} {scope : Scope} {pos : Pos} {it acc : Value} {env : Env} (I : Nat → Shared → Prop)
    (turn : ∀ n s, I n s → wpAny (model prog w) A (pyNext it) (fun r s₁ => match r with
      | none => R (.ok .next) s₁
      | some v => wpAny (model prog w) A (letOwnedTupleGo target it v) (fun _ s₁' => wpAny (model prog w) A (assign target env v) (fun _ s₂ =>
          wpAny (model prog w) A (forIn ifs true fun c r => if r = true then do let ok ← isTrue c env (eval c env); pure (ForInStep.yield ok) else pure (ForInStep.yield r)) (fun ok s₃ =>
            if ok = true then wpAny (model prog w) A (eval elt env) (fun x s₄ =>
              wpAny (model prog w) A (call (.builtin "list.append") [acc, x]) (fun _ s₅ => ∃ m, m < n ∧ I m s₅) (fun _ _ => False) s₄) (fun _ _ => False) s₃
            else ∃ m, m < n ∧ I m s₃) (fun _ _ => False) s₂) (fun _ _ => False) s₁') (fun _ _ => False) s₁) (fun _ _ => False) s)
    (n : Nat) (h : I n s) : codeAny (model prog w) A (.compLoop (.ListComp elt [⟨target, iter, ifs, 0⟩] scope pos) 0 it acc env) R s := by
  refine codeAny_loop rfl I (fun n s hI => ?_) n h
  show wpAny _ A ((compTurn (.ListComp elt [⟨target, iter, ifs, 0⟩] scope pos) 0 it acc env).onRaise (fun x => do noteFrame x env; theTreesLotGoes x)) _ _ s
  refine wpAny_noted ?_
  rw [compTurn_list]
  refine wpAny_bind (wpAny_standAt (wpAny_bind (wpAny_mono (turn n s hI) (fun r s₁ h₁ => ?_) fun _ _ z => z.elim)))
  cases r with
  | none => exact wpAny_pure h₁
  | some v =>
    refine wpAny_bind (wpAny_mono h₁ (fun _ s₁' h₁' => ?_) fun _ _ z => z.elim)
    refine wpAny_bind (wpAny_mono h₁' (fun _ s₂ h₂ => wpAny_bind (wpAny_mono h₂ (fun ok s₃ h₃ => ?_) fun _ _ z => z.elim)) fun _ _ z => z.elim)
    cases ok with
    | false => exact wpAny_pure ⟨rfl, h₃⟩
    | true =>
      exact wpAny_bind (wpAny_bind (wpAny_mono h₃ (fun x s₄ h₄ => wpAny_bind (wpAny_mono h₄ (fun _ s₅ h₅ => wpAny_pure (wpAny_pure ⟨rfl, h₅⟩)) fun _ _ z => z.elim)) fun _ _ z => z.elim))
/-- the block's context -/
def blk (X : Cx) (N' : List Str) (scope : Scope) (cl : List (Str × Addr)) (C : Addr) (s₀ : Shared) (H₀ : Hp) (ex : List Addr) (pn : List (Addr × Obj)) : Cx where
  prog := X.prog
  w := X.w
  K := X.K
  mg := X.mg
  base := X.base
  A := X.A
  N := N'
  s₀ := s₀
  H₀ := H₀
  env := compEnvC scope cl C X.env
  outer := X.stack
  stack := X.stack
  ex := ex
  fn := fun _ => false
  calm := X.calm
  pn := pn
  xe := fun _ _ => False
structure ClOk (X : Cx) (scope : Scope) (cl : List (Str × Addr)) : Prop where
  run : closureFor scope X.env = pure cl
  sub : ∀ x c, cl.lookup x = some c → X.env.cells.lookup x = some c
  has : ∀ x, ((relabel scope X.env).names.lookup x = some .cell ∨ (relabel scope X.env).names.lookup x = some .free) → ∃ c, cl.lookup x = some c
/-- the names that the block takes over stand in cells -/
structure BlkN (X : Cx) (N' : List Str) (scope : Scope) (cl : List (Str × Addr)) (σ σ' : St) : Prop where
  len : σ'.length = N'.length
  from' : ∀ (i : Nat) (x : Str) (v : V), N'[i]? = some x → σ'[i]? = some (some v) → ∃ j : Nat, X.N[j]? = some x ∧ σ[j]? = some (some v) ∧ Vis X.env.scope x ∧ X.env.kindOf x ≠ some .local ∧
    ((relabel scope X.env).names.lookup x = some .cell ∨ (relabel scope X.env).names.lookup x = some .free)
section
variable {X : Cx} {pins : List (Addr × Obj)} {σ σ' : St} {H : Hp} {s : Shared}
theorem blk_start {N' : List Str} {scope : Scope} {cl : List (Str × Addr)} {fp : List Addr} {h₁ : Heap} {t' : Nat} (I : Inv X pins σ H s) (hkind : scope.kind = .function) (hcl : ClOk X scope cl) (hN : BlkN X N' scope cl σ σ') (hf : ∀ b ∈ fp, FpOk X pins H b) (hfo : ∀ b ∈ fp, b < s.heap.objs.size)
    (hns : h₁.Ns s.heap.objs.size (fun _ => none)) (hk : ∀ b o, s.heap.get? b = some o → h₁.get? b = some o) :
    Inv (blk X N' scope cl s.heap.objs.size s H fp (X.pn ++ pins)) [] σ' H { s with heap := h₁, toks := t' } := by
  have hfs : ∀ b, b ∉ (X.env.locals :: X.fs) → b ∉ frs X.stack := fun b hb z => hb (I.stkSub b z)
  refine ⟨⟨I.ok.mod, hkind, I.ok.glob, I.ok.blt, Nat.le_refl _, ?_, hcl.has, fun _ _ h => absurd h (by intro z; cases z), I.ok.hd, I.ok.frames, .inl rfl, ?_, I.bs, Nat.le_trans I.ok.bsz I.sz, ?_, ?_, I.stack, I.stkFree⟩,
    rfl, I.bare, Un.kept hk, ⟨_, hns, ?_⟩, ?_, I.hok.fresh (Nat.le_refl _), fun x c e => I.freeC x c (hcl.sub x c e), ?_, I.hok.kept hk, hN.len⟩
  · intro x y c h1 h2
    exact I.ok.inj x y c (hcl.sub x c h1) (hcl.sub y c h2)
  · intro b hb
    exact ⟨Nat.ne_of_lt (hfo b hb), fun x c e => (hf b hb).2.2.2.2.1 x c (hcl.sub x c e)⟩
  · intro b o e hb
    rcases (hf b hb).2.2.2.1 with q | q
    · exact I.ok.noex b o e q
    · exact absurd (Nat.lt_of_lt_of_le (Heap.lt_size e) (Nat.le_trans I.ok.bsz q)) (Nat.lt_irrefl _)
  · intro b hb
    refine hfs b fun z => ?_
    rcases List.mem_cons.mp z with z | z
    · exact (hf b hb).2.1 z
    · exact (hf b hb).2.2.1 z
  · intro i x v h1 h2 _
    obtain ⟨j, hj, hσ, hv, hnl, hk'⟩ := hN.from' i x v h1 h2
    obtain ⟨m, hn, hl⟩ := I.loc
    obtain ⟨u, r, l⟩ := hl j x v hj hσ hv
    refine ⟨u, r, .inr ⟨hk', ?_⟩⟩
    obtain ⟨c, hc⟩ := hcl.has x hk'
    rcases l with ⟨hloc, _⟩ | ⟨_, c', hc', hcell⟩
    · exact absurd hloc hnl
    · have e := hcl.sub x c hc
      rw [hc'] at e
      cases e
      obtain ⟨o, ho, hd⟩ := hcell
      exact ⟨_, hc, o, hk _ _ ho, hd⟩
  · intro x c e
    obtain ⟨v, o, ho, hd⟩ := I.cell x c (hcl.sub x c e)
    exact ⟨v, o, hk _ _ ho, hd⟩
  · intro p hp
    rw [show (blk X N' scope cl s.heap.objs.size s H fp (X.pn ++ pins)).pn = X.pn ++ pins from rfl, List.append_nil] at hp
    obtain ⟨a1, a2, a3, a4, a5⟩ := I.pin p hp
    refine ⟨hk _ _ a1, a2, Nat.ne_of_lt (Heap.lt_size a1), hfs _ fun z => ?_, a5⟩
    rcases List.mem_cons.mp z with z | z
    · exact a3 z
    · exact a4 z
theorem blk_end {N' : List Str} {scope : Scope} {cl : List (Str × Addr)} {fp : List Addr} {pl : List (Addr × Obj)} {H' : Hp} {s' : Shared} {h'' : Heap} (I : Inv X pins σ H s) (hf : ∀ b ∈ fp, FpOk X pins H b)
    (J : Inv (blk X N' scope cl s.heap.objs.size s H fp (X.pn ++ pins)) pl σ' H' s') (hs : Heap.SameBut s.heap.objs.size s'.heap h'') : Inv X pins σ H' { s' with heap := h'' } := by
  have hne : ∀ b o, s.heap.get? b = some o → b ≠ s.heap.objs.size := fun b o e => Nat.ne_of_lt (Heap.lt_size e)
  have hC : H' s.heap.objs.size = none := J.free
  have ub : Un (frs X.stack) fp H H' s.heap s'.heap := J.base
  have u : Un (frs X.stack) fp H H' s.heap h'' := {
    keep := fun b o e n hb hx => hs.extBut b o (hne b o e) (ub.keep b o e n hb hx)
    slot := fun b o e n hb hx => by
      obtain ⟨sl, q⟩ := ub.slot b o e n hb hx
      exact ⟨sl, hs.extBut b _ (hne b o e) q⟩
    free := ub.free
    there := fun b o e hx => by
      obtain ⟨o', q⟩ := ub.there b o e hx
      exact ⟨o', hs.extBut b _ (hne b o e) q⟩
    tups := ub.tups
    frzs := ub.frzs
    tbls := ub.tbls }
  have hok : HOk X.prog X.w H' h'' := fun a o e => (J.hok a o e).stay (fun b ob hb q => hs.extBut b ob (fun z => by
    rw [z] at hb
    rcases hb with hb | hb
    · rw [← hb, hC] at e; cases e
    · rw [hC] at hb; cases hb) q) (fun _ h => h) (fun _ _ h => h)
  exact I.call' (s' := { s' with heap := h'' }) J.os u hok J.bare fun b hb => by
    obtain ⟨f0, f1, f2, f3, f4, f5⟩ := hf b hb
    exact ⟨f3, f1, f4, f5⟩
end
end L2

namespace L2
open PySem PySem.Spec PyProof.Rows
/-- the tests of a clause -/
def PIfs (X : Cx) (ifs : List Expr) (t : TT) : Prop :=
  ∀ (pins : List (Addr × Obj)) (s : Shared) (σ : St) (H : Hp) (Q : Bool → Hp → Prop), Inv X pins σ H s → t σ H Q →
    wpAny (model X.prog X.w) X.A (forIn ifs true fun c r => if r = true then do let ok ← isTrue c X.env (eval c X.env); pure (ForInStep.yield ok) else pure (ForInStep.yield r)) (TP X pins σ Q) X.xe s
def tNoIf : TT := fun _ H Q => Q true H
theorem pifs_nil {X : Cx} : PIfs X [] tNoIf := fun _ _ _ H _ I h => wpAny_tests_nil ⟨H, I, h⟩
theorem pifs_one {X : Cx} {c : Expr} {t : TT} (h : PT X c t) : PIfs X [c] t := fun pins s σ H Q I hw => wpAny_tests_one (h pins s σ H Q I hw)
/-- the slots that were filled are as they were -/
structure Keep (σa σb : St) : Prop where
  len : σb.length = σa.length
  at' : ∀ (i : Nat) (v : V), σa[i]? = some (some v) → σb[i]? = some (some v)
theorem Keep.refl (σ : St) : Keep σ σ := ⟨rfl, fun _ _ h => h⟩
theorem Keep.set {σa σb : St} {i : Nat} {v : V} (k : Keep σa σb) (h : σa[i]? = some none) : Keep σa (σb.set i (some v)) := by
  refine ⟨by rw [List.length_set]; exact k.len, fun j u e => ?_⟩
  have hj : i ≠ j := by
    rintro rfl
    rw [h] at e
    cases e
  rw [List.getElem?_set_ne hj]
  exact k.at' j u e
def tComp (σf : St → St) (wi : TI) (g : TG) (tt : TT) (te : TE) : TE := fun σ H Q => wi σ H fun J H1 => ∀ D, H1 D = none → ∃ W : Nat → Nat → List V → Hp → Prop, (∃ m, W 0 m [] (upd H1 D (.lst []))) ∧
  ∀ i m ys H, W i m ys H → H D = some (.lst ys) ∧ ys.length < sizeLine ∧
    ((J.stop i H ∧ Q (.ref D) H) ∨ (J.go i H ∧ ∀ x H', J.yld i H x H' → g x (σf σ) H' fun σ2 H2 => Keep (σf σ) σ2 ∧ tt σ2 H2 fun b H3 =>
      if b = true then te σ2 H3 fun y H4 => H4 D = some (.lst ys) ∧ ∃ m', m' < m ∧ W (i + 1) m' (ys ++ [y]) (upd H4 D (.lst (ys ++ [y]))) else ∃ m', m' < m ∧ W (i + 1) m' ys H3))
theorem pe_comp {X : Cx} {elt tg iter : Expr} {ifs : List Expr} {scope : Scope} {pos : Pos} {N' : List Str} {cl : List (Str × Addr)} {wi : TI} {g : TG} {tt : TT} {te : TE} (σf : St → St)
    (hc : X.calm = true) (hkind : scope.kind = .function) (hcell : ∀ y ∈ scope.names, y.2 ≠ .cell) (hnames : ∀ y ∈ scope.names, y.2 = .local → scope.names.lookup y.1 = some .local) (hcl : ClOk X scope cl)
    (hN : ∀ σ : St, σ.length = X.N.length → BlkN X N' scope cl σ (σf σ)) (hi : PI X tg iter wi)
    (hg : ∀ C s₀ H₀ ex pn, PG (blk X N' scope cl C s₀ H₀ ex pn) tg g) (ht : ∀ C s₀ H₀ ex pn, PIfs (blk X N' scope cl C s₀ H₀ ex pn) ifs tt) (he : ∀ C s₀ H₀ ex pn, PE (blk X N' scope cl C s₀ H₀ ex pn) elt te)
    (hs : ∀ x, foldedSetIterable iter X.env x = pure x := by intro _; rfl) : PE X (.ListComp elt [⟨tg, iter, ifs, 0⟩] scope pos) (tComp σf wi g tt te) := by
  intro pins s σ H Q I h
  rw [eval_ListComp]
  refine wpAny_comprehension_free (use := none) rfl hs hcl.run hkind hnames (thn (hi pins s σ H _ I h) fun v s1 h1 => thn h1 fun itv s2 h2 => ?_)
  obtain ⟨it, fp, tn, J, H2, rfl, I2, T, st2, f2, q⟩ := h2
  refine wpAny_newObj_type (wpAny_newFunctionEnv hcell (by intro y hy; simp at hy) (fun h₁ hns₁ hsb₁ => ?_) hkind)
  dsimp only at hns₁ hsb₁ ⊢
  have hfo : ∀ b ∈ fp, b < s2.heap.objs.size := fun b hb => by
    obtain ⟨o, e, _⟩ := T.obj _ _ st2 b hb
    exact Heap.lt_size e
  have hDf : H2 s2.heap.objs.size = none := I2.hok.fresh (Nat.le_refl _)
  obtain ⟨W, ⟨m0, w0⟩, turn⟩ := q s2.heap.objs.size hDf
  have I3 : Inv X pins σ (upd H2 s2.heap.objs.size (.lst [])) { s2 with heap := s2.heap.push { cls := .type "list", data := .seq ([] : List Value).toArray } } := I2.lnew (its := []) (t' := s2.toks) .nil (Nat.zero_le _)
  have f3 : ∀ b ∈ fp, FpOk X pins (upd H2 s2.heap.objs.size (.lst [])) b := fun b hb => ⟨by rw [upd_ne (Nat.ne_of_lt (hfo b hb))]; exact (f2 b hb).1, (f2 b hb).2⟩
  generalize hD : s2.heap.objs.size = D at *
  generalize hs3 : ({ s2 with heap := s2.heap.push { cls := .type "list", data := .seq ([] : List Value).toArray } } : Shared) = s3 at *
  have hh3 : s3.heap = s2.heap.push { cls := .type "list", data := .seq ([] : List Value).toArray } := by rw [← hs3]
  have hsz3 : s2.heap.objs.size < s3.heap.objs.size := by rw [hh3, Heap.size_push]; exact Nat.lt_succ_self _
  have e3 : ∀ h t, ({ s2 with heap := h, toks := t } : Shared) = { s3 with heap := h, toks := t } := fun h t => by rw [← hs3]
  rw [← hh3] at hns₁ hsb₁ ⊢
  have hk3 : ∀ b o, s3.heap.get? b = some o → h₁.get? b = some o := fun b o e => hsb₁.extBut b o (Nat.ne_of_lt (Heap.lt_size e)) (Heap.get?_push_of_some _ e)
  have I4 := blk_start (t' := s3.toks) I3 hkind hcl (hN σ I.len) f3 (fun b hb => Nat.lt_trans (hfo b hb) (hD ▸ hsz3)) (hns := by simpa using hns₁) hk3
  generalize hB : blk X N' scope cl s3.heap.objs.size s3 (upd H2 D (.lst [])) fp (X.pn ++ pins) = B at *
  have hBp : B.prog = X.prog := by rw [← hB]; rfl
  have hBw : B.w = X.w := by rw [← hB]; rfl
  have hBK : B.K = X.K := by rw [← hB]; rfl
  have hBA : B.A = X.A := by rw [← hB]; rfl
  have hBc : B.calm = true := by rw [← hB]; exact hc
  have hBe : B.env = compEnvC scope cl s3.heap.objs.size X.env := by rw [← hB]; rfl
  have hBx : B.xe = fun _ _ => False := by rw [← hB]; rfl
  have hGB : PG B tg g := hB ▸ hg _ _ _ _ _
  have hTB : PIfs B ifs tt := hB ▸ ht _ _ _ _ _
  have hEB : PE B elt te := hB ▸ he _ _ _ _ _
  have stat : ∀ {H' : Hp}, (∀ b ∈ fp, H' b = none) → ∀ b ∈ fp, FpOk B [] H' b := fun {H'} hn b hb => by
    obtain ⟨f0, f1, f2', f3', f4, f5⟩ := f3 b hb
    rw [← hB]
    refine ⟨hn b hb, Nat.ne_of_lt (Nat.lt_trans (hfo b hb) (hD ▸ hsz3)), fun z => ?_, .inl hb, fun x c e => f4 x c (hcl.sub x c e), fun p hp => ?_⟩
    · rcases List.mem_cons.mp (I.stkSub b z) with z | z
      · exact f1 z
      · exact f2' z
    · rw [show (blk X N' scope cl s3.heap.objs.size s3 (upd H2 D (.lst [])) fp (X.pn ++ pins)).pn = X.pn ++ pins from rfl, List.append_nil] at hp
      exact f5 p hp
  have loop : ∀ s4 : Shared, Inv B [] (σf σ) (upd H2 D (.lst [])) s4 → tn 0 s4.heap →
      codeAny (model X.prog X.w) X.A (.compLoop (.ListComp elt [⟨tg, iter, ifs, 0⟩] scope pos) 0 (.ref it) (.ref D) (compEnvC scope cl s3.heap.objs.size X.env)) (compPost (model X.prog X.w) X.A X.xe none (EP X pins σ Q) (.ref D) s3.heap.objs.size) s4 := by
    intro s4 I4 st4
    refine compLoop_gen (I := fun n s' => ∃ i ys H', Inv B [] (σf σ) H' s' ∧ tn i s'.heap ∧ (∀ b ∈ fp, H' b = none) ∧ W i n ys H') ?_ m0 ⟨0, [], _, I4, st4, fun b hb => (f3 b hb).1, w0⟩
    rintro n s5 ⟨i, ys, H5, I5, st5, fr5, w5⟩
    obtain ⟨hD5, hlen5, alt⟩ := turn i n ys H5 w5
    rcases alt with ⟨stop, qn⟩ | ⟨go, step⟩
    · have z := T.done B hBp hBw hBK hBc i [] s5 (σf σ) H5 (fun _ _ => False) I5 (stat fr5) st5 stop
      rw [hBA] at z
      refine thn z fun r s6 ⟨hr, I6⟩ => ?_
      subst hr
      obtain ⟨m6, hn6, _⟩ := I6.loc
      rw [hBe] at hn6
      refine ⟨m6, hn6, fun h' hs' => ?_⟩
      subst hB
      exact ⟨.ref D, H5, blk_end I3 f3 I6 hs', rfl, qn⟩
    · have z := T.item B hBp hBw hBK hBc i [] s5 (σf σ) H5 (fun _ _ => False) I5 (stat fr5) st5 go
      rw [hBA] at z
      refine thn z fun r s6 ⟨u, hr, h6⟩ => ?_
      subst hr
      refine thn h6 fun _ s7 ⟨x, H7, I7, r7, y7, st7, fr7⟩ => ?_
      have I7' := I7.pinned (stat fr7) (T.obj _ _ st7)
      have z8 := hGB _ s7 (σf σ) H7 x u _ I7' r7 (step x H7 y7)
      rw [hBp, hBw, hBA, hBe, hBx] at z8
      refine thn z8 fun _ s8 ⟨σ8, H8, I8, k8, q8⟩ => ?_
      have z9 := hTB _ s8 σ8 H8 _ I8 q8
      rw [hBp, hBw, hBA, hBe, hBx] at z9
      refine thn z9 fun ok s9 ⟨H9, I9, q9⟩ => ?_
      have again : ∀ {ys' : List V} {H' : Hp} {s' : Shared}, Inv B ([] ++ pinsAt fp s7.heap) σ8 H' s' → (∃ m', m' < n ∧ W (i + 1) m' ys' H') → ∃ m, m < n ∧ ∃ i ys H', Inv B [] (σf σ) H' s' ∧ tn i s'.heap ∧ (∀ b ∈ fp, H' b = none) ∧ W i m ys H' := fun {ys' H' s'} J ⟨m', hm, w'⟩ => by
        refine ⟨m', hm, i + 1, ys', H', J.unpinned.weak k8.len.symm k8.at', T.keep _ _ _ st7 fun b hb o e => (J.pin (b, o) (List.mem_append_right _ (List.mem_append_right _ (mem_pinsAt hb e)))).1, fun b hb => ?_, w'⟩
        obtain ⟨o, e, d⟩ := T.obj _ _ st7 b hb
        exact (J.pin (b, o) (List.mem_append_right _ (List.mem_append_right _ (mem_pinsAt hb e)))).2.1
      cases ok with
      | false => exact again I9 q9
      | true =>
        have z10 := hEB _ s9 σ8 H9 _ I9 q9
        rw [hBp, hBw, hBA, hBe, hBx] at z10
        refine thn z10 fun y10 s10 ⟨y, H10, I10, r10, hD10, q10⟩ => ?_
        have z11 := mt_append (X := B) _ s10 σ8 H10 (.ref D) [y] (.ref D) [y10] (fun _ H' => ∃ m', m' < n ∧ W (i + 1) m' (ys ++ [y]) H') I10 rfl (.cons r10 .nil) ⟨D, ys, y, rfl, rfl, hD10, hlen5, q10⟩
        rw [hBp, hBw, hBA, hBx] at z11
        refine thn z11 fun _ s11 ⟨_, H11, I11, _, q11⟩ => again I11 q11
  have st4 : tn 0 ({ s3 with heap := h₁, toks := s3.toks } : Shared).heap := T.keep _ _ _ st2 fun b hb o e => hk3 b o (by rw [hh3]; exact Heap.get?_push_of_some _ e)
  have L4 := loop _ I4 st4
  subst hs3
  exact codeAny_compStart_list L4 (T.self _ 0 _ _ _ st4 L4)
end L2

namespace L2
open PySem PySem.Spec PyProof.Rows
/-! ### large ints: sizes in bits -/
def Bt (n : Nat) (x : Int) : Prop := x.natAbs < 2 ^ n
theorem Bt.bits {n : Nat} {x : Int} (h : Bt n x) : Builtin.Int.intBits x ≤ n := intBits_le_iff.mpr h
theorem Bt.of_bits {n : Nat} {x : Int} (h : Builtin.Int.intBits x ≤ n) : Bt n x := intBits_le_iff.mp h
theorem Bt.mono {m n : Nat} {x : Int} (h : Bt m x) (hn : m ≤ n) : Bt n x := Nat.lt_of_lt_of_le h (Nat.pow_le_pow_right (by decide) hn)
theorem Bt.mul {m n : Nat} {x y : Int} (h : Bt m x) (h' : Bt n y) : Bt (m + n) (x * y) := .of_bits (intBits_mul_le h.bits h'.bits)
theorem Bt.add {m : Nat} {x y : Int} (h : Bt m x) (h' : Bt m y) : Bt (m + 1) (x + y) := .of_bits (by have := intBits_add_le h.bits h'.bits; rwa [Nat.max_self] at this)
theorem log_of {n : Nat} {x : Int} (h : Bt n x) (hp : 0 < x) (hn : n ≤ 9000) : x.natAbs.log2 < 9000 := by
  have : x.natAbs.log2 < n := (Nat.log2_lt (by omega)).mpr h
  omega
def CMulB (i j : Int) : Prop := Bt 1000000 i ∧ Bt 1000000 j
def CDivB (_i j : Int) : Prop := 0 < j ∧ Bt 9000 j
def CPowB (i j : Int) : Prop := 0 ≤ j ∧ j ≤ 1000 ∧ Bt 1000 i
section
variable {X : Cx}
theorem op_mulB : OpR X (binaryOp .Mult) (rI CMulB fun i j => .int (i * j)) := opI fun _ _ _ _ _ _ _ hc q => mul_int q (.of_bits (Nat.le_trans hc.1.bits (by decide)) (Nat.le_trans hc.2.bits (by decide)))
theorem op_fdivB : OpR X (binaryOp .FloorDiv) (rI CDivB fun i j => .int (i / j)) := opI fun i j _ _ _ _ _ hc q => by
  have h1 : (0 : Int) < j := hc.1
  rw [← Int.fdiv_eq_ediv_of_nonneg i (Int.le_of_lt h1)] at q
  exact floordiv_int (by omega) q (.inl (PyProof.noPylong_of_log2 (log_of hc.2 h1 (Nat.le_refl _))))
/-! ### tuples of ints -/
def rEqI (K : PySem.W.Frag) : R2 := fun x y H Q => ∃ a b, ∃ ns ms : List Int, x = .ref a ∧ y = .ref b ∧ SqT K H a (ns.map V.int) ∧ SqT K H b (ms.map V.int) ∧ Q (.bl (decide (ns = ms))) H
def rNeI (K : PySem.W.Frag) : R2 := fun x y H Q => ∃ a b, ∃ ns ms : List Int, x = .ref a ∧ y = .ref b ∧ SqT K H a (ns.map V.int) ∧ SqT K H b (ms.map V.int) ∧ Q (.bl (!decide (ns = ms))) H
end
end L2

namespace L2
open PySem PySem.Spec PyProof.Rows
section
variable {X : Cx}
/-- sum of a list of ints -/
theorem call_sum (hc : X.calm = true) : CallR X (.builtin "sum") (fun xs H Q => ∃ p, ∃ ns : List Int, xs = [.ref p] ∧ SqL X.K H p (ns.map V.int) ∧ Q (.int ns.sum) H) := by
  intro pins s σ H xs us Q I r h
  obtain ⟨p, ns, rfl, hq, q⟩ := h
  obtain ⟨u, rfl, rx⟩ := vals1 r
  cases rx
  obtain ⟨its, r', pl, hz⟩ := I.list hq
  have hi := intsAre_of r'
  obtain ⟨ys, e⟩ := (hi.allInts).items
  have hl : s.heap.IsList p (intItems ys) := e ▸ pl.isList
  refine sum_intListG (I.ok.hd hc) hl fun h' tk t' hk => ?_
  refine ⟨.int ns.sum, H, I.kept hk, ⟨t', ?_⟩, q⟩
  have e1 : numsOf its = ns := hi.numsOf
  have e2 : numsOf (intItems ys).toList = numsOf its := by rw [← e]
  rw [nums_intItems, e1] at e2
  rw [preSum_eq, List.take_of_length_le (by simp), e2]
/-- an item of the tuple that a name holds -/
def tIt (K : PySem.W.Frag) (i k : Nat) : TE := fun σ H Q => ∃ p xs v, σ[i]? = some (some (.ref p)) ∧ SqT K H p xs ∧ xs[k]? = some v ∧ Q v H
/-- a def of the text that may be called by its name -/
structure Cal (P : Program) (w : World) (K : PySem.W.Frag) (mg : Str → Option Value) (base : Heap) (CX : CXT) (k : Nat) (x : Str) (ps : List Str) (sp : Sp) : Prop where
  ex : ∃ (f : Addr) (fd : FuncData), mg x = some (.ref f) ∧ PySem.W.keepIn K (.ref f) = true ∧ Binds K fd ps [] ∧ FnOk P w K mg base CX k f fd ps sp
theorem pe_cal {CX : CXT} {k : Nat} {x : Str} {ps : List Str} {sp : Sp} {E : XK} {e : Expr} {es : List Expr} {t : TA} {p pos : Pos} (C : Cal X.prog X.w X.K X.mg X.base CX k x ps sp) (hr : Room k X.A) (hg : Gl X x) (hx : Passes CX X E)
    (ha : PA X (e :: es) t) (hdb : (x == ("__debug__" : Str)) = false := by decide) (he : starEach (e :: es) X.env = (false, eval e X.env) :: starEach es X.env := by rfl) (hpl : (backTo pos (starEach es X.env)).any (·.1) = false := by rfl) :
    PE X (.Call (.Name x p) (e :: es) [] pos) (tCall sp [] E t) := by
  obtain ⟨f, fd, hm, hk, hb, F⟩ := C.ex
  exact pe_call F hr hg hm hk hb .nil hx ha hdb he hpl
theorem Cal.mono {P : Program} {w : World} {K : PySem.W.Frag} {mg : Str → Option Value} {base : Heap} {CX : CXT} {j k : Nat} {x : Str} {ps : List Str} {sp : Sp} (C : Cal P w K mg base CX j x ps sp) (h : j ≤ k) : Cal P w K mg base CX k x ps sp := by
  obtain ⟨f, fd, hm, hk, hb, F⟩ := C.ex
  exact ⟨f, fd, hm, hk, hb, F.mono h⟩
end
theorem Same.upd {H : Hp} {a : Addr} {o : HO} (h : H a = none) : Same H (upd H a o) := fun b u e => by
  rw [upd_ne (ne_of_none e h)]
  exact e
/-- a new tuple of ints comes back, all else as it was -/
def RetT (H : Hp) (Q : VK) (ns : List Int) : Prop := ∀ p H', Same H H' → H' p = some (.tup (ns.map V.int)) → Q (.ref p) H'
end L2

namespace L2
open PySem PySem.Spec PyProof.Rows PySem.W
/-- an own class of errors, as the top has made it -/
structure ExK (K : Frag) (C : Addr) : Prop where
  ga : findIn K (.ref C) "__getattribute__" = some (some (.builtin "BaseException.__getattribute__"))
  gt : findIn K (.ref C) "__getattr__" = some none
  cl : findIn K (.ref C) "__class__" = some (some (.builtin "object.__class__"))
  sb : subIn K (.ref C) (.type "BaseException") = some true
  so : subIn K (.ref C) (.type "object") = some true
  ci : (clsIn K C).isSome = true
/-- an object of the class at C stands at a -/
structure ExAt (h : Heap) (a : Addr) (o : Obj) (C : Addr) : Prop where
  at_ : h.get? a = some o
  cls : o.cls = .ref C
section
variable {prog : Program} {w : World} {A : Around} {E : Value → Shared → Prop} {h : Heap} {g : Array GenState} {d : Drawn} {t : Nat} {os : OsState} {a C : Addr} {o : Obj} {K : Frag}
end
/-- an object of an own class of errors stands at a: what is tracked of it -/
def excO (a C : Addr) : HO := .ext fun h => ∃ o, ExAt h a o C
section
variable {X : Cx}
end
end L2

namespace L2
open PySem PySem.Spec PyProof.Rows PySem.W
/-! ### an error on its way, with its own dict -/
/-- an error at e with a traceback, its class, its dict -/
def TrD (h base : Heap) (e : Addr) (cls : Value) (dd : Option Addr) (fl : Value) : Prop :=
  ∃ (ob tb : Obj) (us ts : Array Value) (T : Addr), (h.get? e = some ob ∧ ob.data = .fields us ∧ ob.cls = cls ∧ ob.dict = dd) ∧ us[1]? = some (.ref T) ∧ (base.get? T = none ∧ T ≠ e) ∧ h.get? T = some tb ∧ tb.data = .fields ts ∧ ts[3]? = some fl
structure FlyD (base : Heap) (l : List Env) (e : Addr) (cls : Value) (dd : Option Addr) (fl : Value) (h : Heap) : Prop where
  st : base.StaysIn h
  no : base.get? e = none
  fr : h.FunFrames base l
  tr : TrD h base e cls dd fl
section
variable {M : Model} {A : Around} {E : Value → Shared → Prop} {s : Shared} {base : Heap} {env : Env} {outer : List Env} {L e : Addr} {Q : Unit → Shared → Prop} {cls : Value} {dd : Option Addr}
end
end L2

namespace L2
open PySem PySem.Spec PyProof.Rows PySem.W
/-- an error is under way, with its own dict: what is known behind a call that ended so (s, H: ahead of the call) -/
structure Flx (P : Program) (w : World) (outer : List Env) (H : Hp) (s : Shared) (H' : Hp) (ea : Addr) (cls : Value) (dd : Option Addr) (s' : Shared) : Prop where
  os : s'.os = s.os
  bare : AllBare s'.gens
  un : Un (frs outer) [] H H' s.heap s'.heap
  fl : ∃ B : Heap, HOk P w H' B ∧ FlyD B outer ea cls dd .none s'.heap ∧ (∀ b o, s.heap.get? b = some o → H b = none → b ∉ frs outer → B.get? b = some o) ∧ (∀ b o, s.heap.get? b = some o → b ∉ frs outer → ∃ o', B.get? b = some o')
def CXg (P : Program) (w : World) : CXT := fun outer H s E e s' => ∃ (ea C : Addr) (dd : Option Addr) (H' : Hp), e = .ref ea ∧ Flx P w outer H s H' ea (.ref C) dd s' ∧ E (.ref C) dd H'
/-- a def's body running: it has a frame of its own and nothing that was made ahead of it turns -/
structure OwnF (X : Cx) : Prop where
  stk : X.stack = X.env :: X.outer
  fr : X.env.frame = some X.env.locals
  ex : X.ex = []
section
variable {X : Cx} {pins : List (Addr × Obj)} {σ : St} {H H' : Hp} {s s' : Shared}
end
/-- the body of a def that may raise -/
abbrev cxF (P : Program) (w : World) (K : Frag) (mg : Str → Option Value) (base : Heap) (N : List Str) (qual : Str) (scope : Scope) (f : Addr) (cd : Value) (A : Around) (outer : List Env) (s : Shared) (H : Hp) (E : XK) : Cx := cxOf (CXg P w) P w K mg base N qual scope f cd A outer s H E
section
variable {P : Program} {w : World} {K : Frag} {mg : Str → Option Value} {base : Heap} {N : List Str} {qual : Str} {scope : Scope} {f : Addr} {cd : Value} {A : Around} {outer : List Env} {s : Shared} {H : Hp} {E : XK}
/-- an error that stands there, untracked, leaves -/
def XeOk (X : Cx) (E : XK) : Prop := ∀ (pins : List (Addr × Obj)) (σ : St) (H : Hp) (s : Shared) (ea C : Addr) (ob : Obj) (us : Array Value), Inv X pins σ H s → H ea = none → X.s₀.heap.get? ea = none → s.heap.get? ea = some ob → ob.cls = .ref C → ob.data = .fields us → us[1]? = some .none → E (.ref C) ob.dict H → X.xe (.ref ea) s
end
end L2

namespace L2
open PySem PySem.Spec PyProof.Rows PySem.W
/-- the class that an except names -/
structure CtK (K : Frag) (D : Addr) : Prop where
  ty : typeIn K (.ref D) = some (.type "type")
  ci : (clsIn K D).isSome = true
  sb : subIn K (.ref D) (.type "BaseException") = some true
/-! ### raise -/
abbrev bmV : List Value := [.type "ValueError", .type "Exception", .type "BaseException", .type "object"]
structure ClsObj (h : Heap) (C : Addr) (bmB : List Value) (newId : String) : Prop where
  ex : ∃ (nm q : Str) (N : Addr) (bs bm : List Value) (hdct : Bool) (sn : List Str) (sub : List Value) (ab : Bool) (col : Option Bool) (dd : Option Addr) (k0 k1 k2 k3 k5 : Option Value) (mN : Str → Option Value),
    h.get? C = some (excClassObj nm q C N bs bm hdct sn sub ab col dd k0 k1 k2 k3 k5 newId) ∧ h.Ns N mN ∧ mN "__init__" = none ∧ OwnTail h bmB bm
/-- an error of the class at C that was caught, its dict -/
def excD (a C : Addr) (dd : Option Addr) : HO := .ext fun h => ∃ o, ExAt h a o C ∧ o.dict = dd ∧ ∃ us, o.data = .fields us
def tRaise (C : Addr) (E : XK) (t : TA) : TS := fun _ σ H => t σ H fun vs H1 => vs.length ≤ sizeLine ∧ E (.ref C) none H1
section
variable {X : Cx}
end
/-- within an except suite, from which nothing is raised -/
abbrev Cx.within (X : Cx) (v : Value) : Cx := { X with A := X.A.mark (some v), calm := false, xe := fun _ _ => False }
/-- within a try: what is wanted of an error, and pins that every state bears -/
abbrev Cx.trying (X : Cx) (pins : List (Addr × Obj)) (E : Value → Shared → Prop) : Cx := { X with pn := X.pn ++ pins, xe := E }
section
variable {X : Cx} {pins : List (Addr × Obj)} {σ : St} {H H' : Hp} {s s' : Shared}
/-- an error of the body is caught under the name n and kept under the name y (slot j) -/
def tTry (K : Frag) (N j : Nat) (Dc : Addr) (tb : XK → TS) : TS := fun D σ H => tb (fun cls dd H' => ∃ C, cls = .ref C ∧ ExK K C ∧ subIn K (.ref C) (.ref Dc) = some true ∧ ∀ a, H' a = none → D.nx ((List.replicate N none).set j (some (.ref a))) (upd H' a (excD a C dd))) D σ H
end
end L2

namespace L2
open PySem PySem.Spec PyProof.Rows PySem.W
/-! ### an own class of errors with an __init__ of its own -/
/-- the class at C stands under the one at P, which stands under ValueError; its __init__ is the def at f -/
def xiIn (K : Frag) (C P f : Addr) : Bool := match K.lookup C with
  | some ⟨.type "type", _, .cls cd, sl⟩ => (match cd.mro, sl.toList with
    | .ref C' :: .ref P' :: bm, [_, _, _, _, some (.builtin n), _] => C' == C && P' == P && n == "ValueError.__new__" && !cd.hasDel && cd.hasDict && tailIn K bmV (.ref P' :: bm) && nsOkIn K cd.ns && nsIn K cd.ns "__init__" == some (some (.ref f)) && bm == bmV
    | _, _ => false)
  | _ => false
structure ClsI (h : Heap) (C P f : Addr) : Prop where
  ex : ∃ (nm q : Str) (N : Addr) (bs : List Value) (sn : List Str) (sub : List Value) (ab : Bool) (col : Option Bool) (dd : Option Addr) (k0 k1 k2 k3 k5 : Option Value) (mN : Str → Option Value),
    h.get? C = some (excClassObj nm q C N bs (.ref P :: bmV) true sn sub ab col dd k0 k1 k2 k3 k5 "ValueError.__new__") ∧ h.Ns N mN ∧ mN "__init__" = some (.ref f) ∧ OwnTail h bmV (.ref P :: bmV)
section
variable {prog : Program} {w : World} {A : Around} {E : Value → Shared → Prop} {h : Heap} {g : Array GenState} {d : Drawn} {t : Nat} {os : OsState} {K : Frag} {C P f : Addr}
/-- what stands there when __init__ is called -/
abbrev excNew (h : Heap) (C : Addr) (rest : List Value) : Heap := (h.push { cls := .type "tuple", data := .seq rest.toArray }).push { cls := .ref C, data := .fields #[.ref h.objs.size, .none, .none, .none, .bool false, .none] }
end
end L2

namespace L2
open PySem PySem.Spec PyProof.Rows PySem.W
/-- an error that is being made, or was made and is not raised yet: its class, its dict -/
def exN (a C : Addr) (dd : Option Addr) : HO := .ext fun h => ∃ o t, (h.get? a = some o ∧ o.cls = .ref C ∧ o.dict = dd) ∧ o.data = .fields #[t, .none, .none, .none, .bool false, .none]
/-- what is no more tracked -/
def rem (H : Hp) (a : Addr) : Hp := fun b => if b = a then none else H b
section
variable {X : Cx} {pins : List (Addr × Obj)} {σ : St} {H : Hp} {s : Shared}
end
/-- an own class of errors with an __init__, as the top made it -/
structure ExI (K : Frag) (C P f : Addr) : Prop where
  xi : xiIn K C P f = true
  fn : typeIn K (.ref f) = some (.type "function")
  kp : keepIn K (.ref C) = true
  k : ExK K C
/-- raise C(..): the error is made, __init__ runs, it leaves -/
def tRaiseI (C : Addr) (sp : Sp) (E : XK) (t : TA) : TS := fun _ σ H => t σ H fun vs H1 => vs.length ≤ sizeLine ∧ ∀ e, H1 e = none →
  sp (.ref e :: vs) (upd H1 e (exN e C none)) (fun v H2 => v = .non ∧ ∃ dd, H2 e = some (exN e C dd) ∧ E (.ref C) dd (rem H2 e)) E0
section
variable {X : Cx}
end
end L2

namespace L2
open PySem PySem.Spec PyProof.Rows PySem.W PySem.Builtin PySem.Builtin.ObjectAttr
section
variable {prog : Program} {w : World} {A : Around} {E : Value → Shared → Prop} {h : Heap} {g : Array GenState} {d : Drawn} {t : Nat} {os : OsState} {K : Frag} {C P f a : Addr} {o : Obj} {name : Str} {v : Value}
/-! ### e.name -/
end
/-! ### in the layer -/
/-- what the top made of a class of errors with fields: no attribute of the class has a field's name -/
structure ExF (K : Frag) (C P f : Addr) (x : Str) : Prop where
  i : ExI K C P f
  sa : findIn K (.ref C) "__setattr__" = some (some (.builtin "object.__setattr__"))
  nn : findIn K (.ref C) x = some none
/-- the dict of an error -/
def xdE (a : Addr) (fs : List (Str × V)) : HO := .ext fun h => ∃ mA, h.Ns1 a mA ∧ (∀ g, RelO (fs.lookup g) (mA g)) ∧ Within mA (fs.map (·.1))
section
variable {X : Cx} {pins : List (Addr × Obj)} {σ : St} {H : Hp} {s : Shared} {o e value : Expr} {x : Str} {pos pos' : Pos} {ta tv : TE} {C P f : Addr}
/-- e.x = value, the first one -/
def sExN (K : Frag) (C P f : Addr) (ta tv : TE) (x : Str) : TS := fun D σ H => tv σ H fun y H1 => ta σ H1 fun z H2 => ∃ a, z = .ref a ∧ H2 a = some (exN a C none) ∧ ExF K C P f x ∧
  ∀ dx, H2 dx = none → dx ≠ a → D.nx σ (upd (upd H2 a (exN a C (some dx))) dx (xdE dx [(x, y)]))
end
end L2

namespace L2
open PySem PySem.Spec PyProof.Rows PySem.W PySem.Builtin PySem.Builtin.ObjectAttr
section
variable {prog : Program} {w : World} {A : Around} {E : Value → Shared → Prop} {h : Heap} {g : Array GenState} {d : Drawn} {t : Nat} {os : OsState} {K : Frag} {C P f a : Addr} {o : Obj} {v : Value}
end
/-- the class whose __init__ is called by its name -/
structure BaseI (K : Frag) (P : Addr) : Prop where
  rd : readsIn K P (.type "type") = true
  fc : findCls K (.ref P) (.type "type") "__init__" = some (.val (.builtin "ValueError.__init__"))
  ga : specialIn K (.ref P) "__getattribute__" = some (some (.builtin "type.__getattribute__"))
section
variable {X : Cx} {C P f : Addr} {x : Str} {p apos pos : Pos} {e₁ e₂ : Expr} {t : TA}
/-- Base.__init__(self, text) -/
def tBInit (K : Frag) (P : Addr) (t : TA) : TE := fun σ H Q => t σ H fun vs H1 => ∃ a C dd f txt, vs = [.ref a, .str txt] ∧ H1 a = some (exN a C dd) ∧ ExI K C P f ∧ Q .non H1
/-! ### e.x of an error that was caught -/
def tExF (K : Frag) (ta : TE) (x : Str) : TE := fun σ H Q => ta σ H fun z H1 => ∃ a C P f dx fs v, z = .ref a ∧ H1 a = some (excD a C (some dx)) ∧ H1 dx = some (xdE dx fs) ∧ ExF K C P f x ∧ fs.lookup x = some v ∧ Q v H1
end
end L2

namespace L2
open PySem PySem.Spec PyProof.Rows PySem.W
/-! ### f-strings -/
/-- what stands in an f-string for a value -/
def FmtV : V → Str → Prop
  | .int i, x => i.natAbs.log2 < 1920 ∧ x = (toString i : String)
  | .str y, x => y.length ≤ sizeLine ∧ x = y
  | .non, x => x = "None"
  | _, _ => False
def tFmt (ta : TE) : TE := fun σ H Q => ta σ H fun v H1 => ∃ x, FmtV v x ∧ Q (.str x) H1
abbrev TJ := Str → St → Hp → (Str → Hp → Prop) → Prop
/-- the parts of an f-string, behind what was joined so far -/
def PJ (X : Cx) (es : List Expr) (t : TJ) : Prop :=
  ∀ (acc : Str) (pins : List (Addr × Obj)) (s : Shared) (σ : St) (H : Hp) (Q : Str → Hp → Prop), Inv X pins σ H s → t acc σ H Q → wpAny (model X.prog X.w) X.A (joinParts acc (evalEach es X.env)) (EP X pins σ fun v H' => ∃ x, v = .str x ∧ Q x H') X.xe s
def jNil : TJ := fun acc _ H Q => acc.length ≤ sizeLine ∧ Q acc H
def jCons (te : TE) (tr : TJ) : TJ := fun acc σ H Q => te σ H fun v H1 => ∃ x, v = .str x ∧ (acc ++ x).length ≤ sizeLine ∧ tr (acc ++ x) σ H1 Q
def tJoin (t : TJ) : TE := fun σ H Q => t Str.empty σ H fun x H' => Q (.str x) H'
section
variable {X : Cx} {value e e' : Expr} {es : List Expr} {ta te : TE} {tr t : TJ} {pos : Pos}
end
end L2

namespace L2
open PySem PySem.Spec PyProof.Rows PySem.W
/-! ### over a text, sign by sign -/
def Its (x : Str) : It := ⟨fun i _ => ∃ c, x.cps[i]? = some c, fun i H v H' => H' = H ∧ ∃ c, x.cps[i]? = some c ∧ v = .str ⟨#[c]⟩, fun i _ => x.cps[i]? = none⟩
def iStr (tl : TE) : TI := fun σ H R => tl σ H fun v H1 => ∃ x, v = .str x ∧ R (Its x) H1
section
variable {X : Cx}
end
/-! ### methods of texts -/
def rPart : V → List V → Hp → VK → Prop := fun z vs H Q => ∃ x y, z = .str x ∧ vs = [.str y] ∧ (y.length == 0) = false ∧ x.length ≤ sizeLine ∧ ∀ p, H p = none → Q (.ref p) (upd H p (.tup [.str (Txt.partition x y).1, .str (Txt.partition x y).2.1, .str (Txt.partition x y).2.2]))
def rSplit : V → List V → Hp → VK → Prop := fun z vs H Q => ∃ x y, z = .str x ∧ vs = [.str y] ∧ (y.length == 0) = false ∧ x.length + 2 ≤ sizeLine ∧ ∀ p, H p = none → Q (.ref p) (upd H p (.lst ((Txt.split x y).map V.str)))
section
variable {X : Cx}
end
end L2
namespace L2
open PySem PySem.Spec PyProof.Rows PySem.W
section
variable {X : Cx}
/-! ### int(text), any and all of bools, text * number -/
/-! ### text * number, text[a:b] -/
/-! ### a list against the empty one -/
theorem op_neE (hu : X.A.units + 64 < cLine) : OpR X (compareOp .NotEq) (fun x y H Q => ∃ a b xs, x = .ref a ∧ y = .ref b ∧ SqL X.K H a xs ∧ SqL X.K H b [] ∧ Q (.bl (!xs.isEmpty)) H) := by
  intro pins s σ H x y v u Q I rx ry h
  obtain ⟨a, b, xs, rfl, rfl, ha, hb, q⟩ := h
  cases rx
  cases ry
  obtain ⟨its, r, p, _⟩ := I.list ha
  obtain ⟨its', r', p', _⟩ := I.list hb
  cases r'
  cases r with
  | nil => exact SeqAt.RcNeAt.lists (A := X.A) (e := fun _ => true) p.isList p'.isList rfl (by omega) (fun j h1 => absurd h1 (by simp)) X.prog X.w X.xe _ ⟨.bl _, H, I, rfl, q⟩
  | cons r t => exact SeqAt.RcNeAt.lists_lengths (A := X.A) p.isList p'.isList rfl (by omega) X.prog X.w X.xe _ ⟨.bl _, H, I, rfl, q⟩
end
end L2

/-! texts of figures, and of amounts, as lists of codes -/
namespace TM
open PySem PySem.NumText
/-- the figures of a number -/
def dg (n : Nat) : List Nat := (Nat.toDigits 10 n).map Char.toNat
/-- figures without a nought ahead of others -/
structure Fig (cs : List Nat) : Prop where
  ne : cs ≠ []
  len : cs.length ≤ 60
  all : AllDigits cs
  no : cs.head? = some 48 → cs.length = 1
/-- the text L writes the amount t / b -/
def Reads (L : List Nat) (t b : Nat) : Prop :=
  (Fig L ∧ t = digitsVal L ∧ b = 1) ∨ ∃ p q, L = p ++ 47 :: q ∧ Fig p ∧ Fig q ∧ t = digitsVal p ∧ b = digitsVal q ∧ 2 ≤ b ∧ Nat.gcd t b = 1
def showL (t b : Nat) : List Nat := if b = 1 then dg t else dg t ++ 47 :: dg b
end TM
namespace TM
open PySem PySem.StrLaws PySem.Builtin PySem.Builtin.Str
abbrev cps (x : Str) : List Nat := x.cps.toList
abbrev sl : Str := ⟨#[47]⟩
theorem cps_append' (x y : Str) : cps (x ++ y) = cps x ++ cps y := by
  show (x.cps ++ y.cps).toList = _
  rw [Array.toList_append]
end TM

namespace L2
open PySem PySem.Spec PyProof.Rows PySem.W
theorem count_eqU {x : V} : ∀ {xs : List V} {us : List Value}, Vals xs us → xs.all flatV = true → us.countP (eqU x) = xs.countP fun y => eqV y x
  | _, _, .nil, _ => rfl
  | _, _, .cons r t, h => by
    simp only [List.all_cons, Bool.and_eq_true] at h
    rw [List.countP_cons, List.countP_cons, count_eqU t h.2, eqU_of r h.1]
def rCount : V → List V → Hp → VK → Prop := fun x vs H Q => ∃ l xs y, x = .ref l ∧ vs = [y] ∧ H l = some (.lst xs) ∧ flatV y = true ∧ xs.all flatV = true ∧ Q (.int ((xs.countP fun z => eqV z y : Nat) : Int)) H
def rIndex : V → List V → Hp → VK → Prop := fun x vs H Q => ∃ l xs y, ∃ j : Nat, ∃ z, x = .ref l ∧ vs = [y] ∧ H l = some (.lst xs) ∧ flatV y = true ∧ xs.all flatV = true ∧ xs[j]? = some z ∧ eqV z y = true ∧
  (∀ m z, m < j → xs[m]? = some z → eqV z y = false) ∧ Q (.int (j : Int)) H
section
variable {X : Cx}
theorem mt_count : MtR X "list.count" rCount := by
  intro pins s σ H x vs v us Q I rx rv h
  obtain ⟨l, xs, y, rfl, rfl, hH, fy, fx, q⟩ := h
  cases rx
  obtain ⟨u, rfl, ru⟩ := rv.one
  obtain ⟨z, its, n, r, hl, e⟩ := I.lstM hH
  refine call_meets PySem.F.slot_list_count ⟨_, e, rfl⟩ PySem.F.entry_list_count (PySem.F.args_list_count_2 _ _) (SeqAt.list_countAt l its.toArray n none #[] u (eqU y)) ⟨e, fun u' hu' => mem_eqAt ru fy r fx u' (by simpa using hu'), ?_⟩
  rw [show its.toArray.toList = its from rfl, count_eqU r fx]
  exact ⟨.int _, H, I.tok _, ⟨_, rfl⟩, q⟩
end
def Nx (n i : Nat) (P : Prop) : Prop := ∃ m', m' < n - i ∧ m' = n - (i + 1) ∧ i + 1 ≤ n ∧ P
theorem blkN_none {X : Cx} {scope : Scope} {N' : List Str} {cl : List (Str × Addr)} {σ : St} : BlkN X N' scope cl σ (List.replicate N'.length none) := by
  refine ⟨by simp, fun i x v h1 h2 => ?_⟩
  rw [List.getElem?_replicate] at h2
  split at h2 <;> cases h2
end L2

namespace L2
open PySem PySem.Spec PyProof.Rows
/-! ### an empty dict, of which it is only known that it is one -/
def dcE (a : Addr) : HO := .ext fun h => ∃ o, h.get? a = some o ∧ o.cls = .type "dict"
def tDict0 : TE := fun _ H Q => ∀ p, H p = none → Q (.ref p) (upd H p (dcE p))
section
variable {X : Cx} {pos : Pos}
/-- isinstance against a built-in type, a dict among the things that are asked -/
def IsiD (K : PySem.W.Frag) (H : Hp) (v : V) (T : String) (b : Bool) : Prop := Isi K H v T b ∨ ∃ a, v = .ref a ∧ H a = some (dcE a) ∧ T = "str" ∧ b = false
end
end L2

namespace L2
open PySem PySem.Spec PyProof.Rows
/-! ### == and != of lists -/
def rEqL (K : PySem.W.Frag) : R2 := fun x y H Q => ∃ a b xs ys, ∃ e : Nat → Bool, x = .ref a ∧ y = .ref b ∧ SqL K H a xs ∧ SqL K H b ys ∧ (∀ (j : Nat) x y, xs[j]? = some x → ys[j]? = some y → DEq K H 40 x y (e j)) ∧
  Q (.bl ((List.range (min xs.length ys.length)).all e && xs.length == ys.length)) H
def rNeL (K : PySem.W.Frag) : R2 := fun x y H Q => ∃ a b xs ys, ∃ e : Nat → Bool, x = .ref a ∧ y = .ref b ∧ SqL K H a xs ∧ SqL K H b ys ∧ (∀ (j : Nat) x y, xs[j]? = some x → ys[j]? = some y → DEq K H 40 x y (e j)) ∧
  Q (.bl (!((List.range (min xs.length ys.length)).all e && xs.length == ys.length))) H
section
variable {X : Cx}
end
/-- a value that equals itself at sight -/
def Sf (v : V) : Prop := flatV v = true ∨ ∃ a, v = .ref a
/-- two lists of the same things -/
def rNeLs (K : PySem.W.Frag) : R2 := fun x y H Q => ∃ a b xs, x = .ref a ∧ y = .ref b ∧ SqL K H a xs ∧ SqL K H b xs ∧ (∀ v ∈ xs, Sf v) ∧ Q (.bl false) H
end L2

namespace L2
open PySem PySem.Spec PyProof.Rows
theorem bt_list : bootBuiltins "list" = some (.type "list") := by decide +kernel
/-! ### the tuples stay -/
def Tk (H H' : Hp) : Prop := ∀ b ys, H b = some (.tup ys) → H' b = some (.tup ys)
theorem Same.tk {H H' : Hp} (s : Same H H') : Tk H H' := fun b ys e => s b _ e
theorem Tk.lst {H : Hp} {l : Addr} {xs : List V} {o : HO} (h : H l = some (.lst xs)) : Tk H (upd H l o) := fun b ys e => by
  have ne : b ≠ l := fun z => by rw [z, h] at e; cases e
  rw [upd_ne ne]
  exact e
theorem sz1000 {n : Nat} (h : n ≤ 1000) : n ≤ sizeLine := Nat.le_trans h (by decide)
/-! ### displays of many elements -/
def starFree : Expr → Bool
  | .Starred .. => false
  | _ => true
end L2

namespace L2
open PySem PySem.Spec PyProof.Rows
/-! ### what a value tells: flat things, and tuples of such, at any depth -/
inductive Dt where
  | i (n : Int)
  | s (x : Str)
  | b (k : Bool)
  | n
  | t (l : List Dt)
/-- a tuple that nothing changes: one of the heap, or of the module -/
def SqZ (K : PySem.W.Frag) (H : Hp) (a : Addr) (xs : List V) : Prop := H a = some (.tup xs) ∨ ∃ (o : Obj) (its : Array Value) (n : Nat), K.lookup a = some o ∧ o.cls = .type "tuple" ∧ o.data = .seq its n ∧ its.size ≤ sizeLine ∧ Vals xs its.toList
inductive Dv (K : PySem.W.Frag) (H : Hp) : Nat → V → Dt → Prop where
  | i {n m} : Dv K H n (.int m) (.i m)
  | s {n x} : Dv K H n (.str x) (.s x)
  | b {n k} : Dv K H n (.bl k) (.b k)
  | n {n} : Dv K H n .non .n
  | t {n a xs ds} : SqZ K H a xs → xs.length = ds.length → (∀ (j : Nat) x d, xs[j]? = some x → ds[j]? = some d → Dv K H n x d) → Dv K H (n + 1) (.ref a) (.t ds)
/-- lists of such things -/
def DL (K : PySem.W.Frag) (H : Hp) (n : Nat) (xs : List V) (ds : List Dt) : Prop := xs.length = ds.length ∧ ∀ (j : Nat) x d, xs[j]? = some x → ds[j]? = some d → Dv K H n x d
/-- the same list of things, told twice -/
def rEqDL (K : PySem.W.Frag) : R2 := fun x y H Q => ∃ a b xs ys ds, x = .ref a ∧ y = .ref b ∧ SqL K H a xs ∧ SqL K H b ys ∧ DL K H 40 xs ds ∧ DL K H 40 ys ds ∧ Q (.bl true) H
def rNeDL (K : PySem.W.Frag) : R2 := fun x y H Q => ∃ a b xs ys ds, x = .ref a ∧ y = .ref b ∧ SqL K H a xs ∧ SqL K H b ys ∧ DL K H 40 xs ds ∧ DL K H 40 ys ds ∧ Q (.bl false) H
def rEqDT (K : PySem.W.Frag) : R2 := fun x y H Q => ∃ a b xs ys ds, x = .ref a ∧ y = .ref b ∧ SqT K H a xs ∧ SqT K H b ys ∧ DL K H 40 xs ds ∧ DL K H 40 ys ds ∧ Q (.bl true) H
def rNeDT (K : PySem.W.Frag) : R2 := fun x y H Q => ∃ a b xs ys ds, x = .ref a ∧ y = .ref b ∧ SqT K H a xs ∧ SqT K H b ys ∧ DL K H 40 xs ds ∧ DL K H 40 ys ds ∧ Q (.bl false) H
section
variable {X : Cx}
end
end L2

namespace L2
open PySem PySem.Spec PyProof.Rows
/-! ### a comprehension that takes names over -/
theorem closure_go {env : Env} : ∀ (names : List (Str × NameKind)) (acc : List (Str × Addr)), (∀ y ∈ names, y.2 = NameKind.free → ∃ c, env.cells.lookup y.1 = some c) → (∀ x c, acc.lookup x = some c → env.cells.lookup x = some c) →
    ∃ cl, (forIn (m := Sem) names acc (fun x r => do if (x.2 == NameKind.free) = true then do let c ← cellOf env x.1; pure (ForInStep.yield ((x.1, c) :: r)) else pure (ForInStep.yield r))) = pure cl ∧
      (∀ x c, cl.lookup x = some c → env.cells.lookup x = some c) ∧ (∀ y ∈ names, y.2 = NameKind.free → ∃ c, cl.lookup y.1 = some c) ∧ ∀ x, (∃ c, acc.lookup x = some c) → ∃ c, cl.lookup x = some c
  | [], acc, _, h2 => ⟨acc, rfl, h2, (fun y hy => by simp at hy), fun _ h => h⟩
  | y :: r, acc, h1, h2 => by
    by_cases e : y.2 = NameKind.free
    · obtain ⟨c, hc⟩ := h1 y List.mem_cons_self e
      obtain ⟨cl, e1, e2, e3, e4⟩ := closure_go r ((y.1, c) :: acc) (fun z hz => h1 z (List.mem_cons_of_mem _ hz)) (fun x d hx => by
        rw [List.lookup_cons] at hx
        split at hx
        · rename_i hb
          have : x = y.1 := eq_of_beq hb
          rw [this, hc]
          exact hx
        · exact h2 x d hx)
      refine ⟨cl, ?_, e2, fun z hz ez => ?_, fun x hx => e4 x ?_⟩
      · rw [List.forIn_cons, if_pos (by rw [e]; rfl)]
        unfold cellOf
        rw [hc]
        simp only [pure_bind]
        exact e1
      · rcases List.mem_cons.mp hz with rfl | hz
        · exact e4 z.1 ⟨c, by rw [List.lookup_cons, beq_self_eq_true]⟩
        · exact e3 z hz ez
      · obtain ⟨d, hd⟩ := hx
        rw [List.lookup_cons]
        split
        · exact ⟨c, rfl⟩
        · exact ⟨d, hd⟩
    · obtain ⟨cl, e1, e2, e3, e4⟩ := closure_go r acc (fun z hz => h1 z (List.mem_cons_of_mem _ hz)) h2
      refine ⟨cl, ?_, e2, fun z hz ez => ?_, e4⟩
      · rw [List.forIn_cons, if_neg (by intro z; exact e (eq_of_beq z))]
        simp only [pure_bind]
        exact e1
      · rcases List.mem_cons.mp hz with rfl | hz
        · exact absurd ez e
        · exact e3 z hz ez
theorem closure_ok {scope : Scope} {env : Env} (h : ∀ y ∈ scope.names, y.2 = NameKind.free → ∃ c, env.cells.lookup y.1 = some c) :
    ∃ cl, closureFor scope env = pure cl ∧ (∀ x c, cl.lookup x = some c → env.cells.lookup x = some c) ∧ ∀ y ∈ scope.names, y.2 = NameKind.free → ∃ c, cl.lookup y.1 = some c := by
  obtain ⟨cl, e1, e2, e3, _⟩ := closure_go (env := env) scope.names [] h (fun x c e => by simp at e)
  refine ⟨cl, ?_, e2, e3⟩
  simp only [closureFor]
  rw [show (forIn (m := Sem) scope.names [] fun x r => if (x.2 == NameKind.free) = true then (do let c ← cellOf env x.1; pure (ForInStep.yield ((x.1, c) :: r))) else pure (ForInStep.yield r)) = pure cl from e1]
  rfl
theorem relabel_from {scope : Scope} {env : Env} {x : Str} (hc : ∀ y ∈ scope.names, y.2 ≠ NameKind.cell) (h : (relabel scope env).names.lookup x = some .cell ∨ (relabel scope env).names.lookup x = some .free) : ∃ y ∈ scope.names, y.1 = x ∧ y.2 = NameKind.free := by
  have e' : ∃ k, (k = NameKind.cell ∨ k = NameKind.free) ∧ (relabel scope env).names.lookup x = some k := by
    rcases h with e | e
    · exact ⟨_, .inl rfl, e⟩
    · exact ⟨_, .inr rfl, e⟩
  obtain ⟨k, hk, e⟩ := e'
  have hm := PySem.mem_of_lookup e
  obtain ⟨y, hy, hy2⟩ := List.mem_map.mp hm
  obtain ⟨n, kk⟩ := y
  have hn := hc _ hy
  simp only at hy2 hn
  split at hy2
  · rename_i hf
    injection hy2 with a1 a2
    subst a1
    simp only [Bool.and_eq_true] at hf
    exact ⟨(n, kk), hy, rfl, eq_of_beq hf.1.1⟩
  · injection hy2 with a1 a2
    subst a1 a2
    rcases hk with rfl | rfl
    · exact absurd rfl hn
    · exact ⟨_, hy, rfl, rfl⟩
theorem clOk_of {X : Cx} (ok : X.Ok) {scope : Scope} (hc : ∀ y ∈ scope.names, y.2 ≠ NameKind.cell) (h : ∀ y ∈ scope.names, y.2 = NameKind.free → X.env.kindOf y.1 = some .cell ∨ X.env.kindOf y.1 = some .free) : ∃ cl, ClOk X scope cl := by
  obtain ⟨cl, e1, e2, e3⟩ := closure_ok (scope := scope) (env := X.env) fun y hy ey => ok.has y.1 (h y hy ey)
  refine ⟨cl, e1, e2, fun x hx => ?_⟩
  obtain ⟨y, hy, rfl, ey⟩ := relabel_from hc hx
  exact e3 y hy ey
theorem pe_compC {X : Cx} {elt tg iter : Expr} {ifs : List Expr} {scope : Scope} {pos : Pos} {N' : List Str} {wi : TI} {g : TG} {tt : TT} {te : TE} (σf : St → St)
    (hc : X.calm = true) (hkind : scope.kind = .function) (hcell : ∀ y ∈ scope.names, y.2 ≠ .cell) (hnames : ∀ y ∈ scope.names, y.2 = .local → scope.names.lookup y.1 = some .local)
    (hk : ∀ y ∈ scope.names, y.2 = NameKind.free → X.env.kindOf y.1 = some .cell ∨ X.env.kindOf y.1 = some .free)
    (hN : ∀ cl (σ : St), σ.length = X.N.length → BlkN X N' scope cl σ (σf σ)) (hi : PI X tg iter wi)
    (hg : ∀ cl C s₀ H₀ ex pn, PG (blk X N' scope cl C s₀ H₀ ex pn) tg g) (ht : ∀ cl C s₀ H₀ ex pn, PIfs (blk X N' scope cl C s₀ H₀ ex pn) ifs tt) (he : ∀ cl C s₀ H₀ ex pn, PE (blk X N' scope cl C s₀ H₀ ex pn) elt te)
    (hs : ∀ x, foldedSetIterable iter X.env x = pure x := by intro _; rfl) : PE X (.ListComp elt [⟨tg, iter, ifs, 0⟩] scope pos) (tComp σf wi g tt te) := by
  intro pins s σ H Q I h
  obtain ⟨cl, hcl⟩ := clOk_of I.ok hcell hk
  exact pe_comp σf hc hkind hcell hnames hcl (hN cl) hi (hg cl) (ht cl) (he cl) hs pins s σ H Q I h
/-- the names that are taken over: free in the block, cells of the frame -/
theorem hk_of {X : Cx} {scope sc : Scope} (hs : X.env.scope = sc) (h : (scope.names.all fun y => y.2 != NameKind.free || sc.names.lookup y.1 == some NameKind.cell || sc.names.lookup y.1 == some NameKind.free) = true) :
    ∀ y ∈ scope.names, y.2 = NameKind.free → X.env.kindOf y.1 = some .cell ∨ X.env.kindOf y.1 = some .free := fun y hy ey => by
  have q := List.all_eq_true.mp h y hy
  unfold Env.kindOf
  rw [hs]
  rw [ey] at q
  simp only [bne_self_eq_false, Bool.false_or, Bool.or_eq_true] at q
  rcases q with q | q
  · exact .inl (eq_of_beq q)
  · exact .inr (eq_of_beq q)
theorem lookup_relabel_free {env : Env} {x : Str} (hk : env.scope.kind = .function) (hx : env.kindOf x = some .cell) : ∀ {names : List (Str × NameKind)}, names.lookup x = some .free →
    (names.map fun (n, k) => if (k == NameKind.free && env.scope.kind == .function && env.kindOf n == some .cell) then (n, NameKind.cell) else (n, k)).lookup x = some .cell
  | [], h => by simp at h
  | (n, k) :: r, h => by
    rw [List.map_cons]
    rw [List.lookup_cons] at h
    by_cases e : (x == n) = true
    · rw [e] at h
      have e' : x = n := eq_of_beq e
      subst e'
      have hf : k = NameKind.free := Option.some.inj h
      subst hf
      have c : (NameKind.free == NameKind.free && env.scope.kind == .function && env.kindOf x == some .cell) = true := by rw [hk, hx]; rfl
      rw [show (match ((x, NameKind.free) : Str × NameKind) with | (n, k) => if (k == NameKind.free && env.scope.kind == .function && env.kindOf n == some .cell) = true then (n, NameKind.cell) else (n, k)) = (x, NameKind.cell) from if_pos c]
      rw [List.lookup_cons, beq_self_eq_true]
    · have e0 : (x == n) = false := by simpa using e
      rw [e0] at h
      have ih := lookup_relabel_free hk hx h
      have en : ∀ q : Str × NameKind, q.1 = n → (q :: (r.map fun (n, k) => if (k == NameKind.free && env.scope.kind == .function && env.kindOf n == some .cell) then (n, NameKind.cell) else (n, k))).lookup x = some .cell := fun q hq => by
        obtain ⟨q1, q2⟩ := q
        simp only at hq
        subst hq
        rw [List.lookup_cons, e0]
        exact ih
      refine en _ ?_
      show (if _ then (n, NameKind.cell) else (n, k)).1 = n
      split <;> rfl
theorem blkN_by {X : Cx} {N' N : List Str} {scope sc : Scope} {cl : List (Str × Addr)} {σ : St} (ts : List (Option Nat)) (hN : X.N = N) (hsc : X.env.scope = sc) (hl : ts.length = N'.length) (hk : sc.kind = .function)
    (h : ((ts.zip N').all fun p => match p.1 with | none => true | some j => N[j]? == some p.2 && sc.names.lookup p.2 == some NameKind.cell && scope.names.lookup p.2 == some NameKind.free) = true) :
    BlkN X N' scope cl σ (ts.map fun t => t.bind fun j => (σ[j]?).join) := by
  refine ⟨by rw [List.length_map, hl], fun i x v h1 h2 => ?_⟩
  rw [List.getElem?_map] at h2
  cases ht : ts[i]? with
  | none => rw [ht] at h2; cases h2
  | some t =>
    rw [ht] at h2
    have h2' : (t.bind fun j => (σ[j]?).join) = some v := Option.some.inj h2
    cases t with
    | none => cases h2'
    | some j =>
      have hm : (some j, x) ∈ ts.zip N' := List.mem_of_getElem? (by rw [List.getElem?_zip_eq_some]; exact ⟨ht, h1⟩ : (ts.zip N')[i]? = some (some j, x))
      have q := List.all_eq_true.mp h _ hm
      simp only [Bool.and_eq_true] at q
      obtain ⟨⟨q1, q2⟩, q3⟩ := q
      have q1' := eq_of_beq q1
      have q2' := eq_of_beq q2
      have q3' := eq_of_beq q3
      have kd : X.env.kindOf x = some .cell := by
        unfold Env.kindOf
        rw [hsc]
        exact q2'
      refine ⟨j, by rw [hN]; exact q1', ?_, by rw [hsc]; exact .inr (.inl q2'), (by rw [kd]; decide), .inl (lookup_relabel_free (by rw [hsc]; exact hk) kd q3')⟩
      have h3 : (σ[j]?).join = some v := h2'
      cases hj : σ[j]? with
      | none => rw [hj] at h3; cases h3
      | some o => rw [hj] at h3; cases o with
        | none => cases h3
        | some u => cases h3; rfl
end L2

namespace L2
open PySem PySem.Spec PyProof.Rows
/-! ### name = [ .. for .. ]: the name is stored ahead of the block's end -/
theorem ps_comp {X : Cx} {iy : Nat} {y : Str} {py spos : Pos} {elt tg iter : Expr} {ifs : List Expr} {scope : Scope} {pos : Pos} {N' : List Str} {cl : List (Str × Addr)} {wi : TI} {g : TG} {tt : TT} {te : TE} (σf : St → St)
    (hc : X.calm = true) (hkind : scope.kind = .function) (hcell : ∀ y ∈ scope.names, y.2 ≠ .cell) (hnames : ∀ y ∈ scope.names, y.2 = .local → scope.names.lookup y.1 = some .local) (hcl : ClOk X scope cl)
    (hN : ∀ σ : St, σ.length = X.N.length → BlkN X N' scope cl σ (σf σ)) (hi : PI X tg iter wi)
    (hg : ∀ C s₀ H₀ ex pn, PG (blk X N' scope cl C s₀ H₀ ex pn) tg g) (ht : ∀ C s₀ H₀ ex pn, PIfs (blk X N' scope cl C s₀ H₀ ex pn) ifs tt) (he : ∀ C s₀ H₀ ex pn, PE (blk X N' scope cl C s₀ H₀ ex pn) elt te)
    (hnd : X.N.Nodup) (hiy : X.N[iy]? = some y) (hy : Loc X.env.scope y) (hfy : X.fn y = true ∨ X.env.scope.names.lookup y = some .local)
    (hsw : swapsWith (.ListComp elt [⟨tg, iter, ifs, 0⟩] scope pos) (some (.Name y py)) spos.line X.env = pure true)
    (hs : ∀ x, foldedSetIterable iter X.env x = pure x := by intro _; rfl) : PS X (.Assign [.Name y py] (.ListComp elt [⟨tg, iter, ifs, 0⟩] scope pos) spos) (tAsg (tComp σf wi g tt te) (gName iy)) := by
  intro pins s σ H Dn I h
  rw [exec_Assign_Name_used _ _ _ _ hsw]
  refine wpAny_bind (wpAny_standAt (wpAny_bind ?_))
  show wpAny _ X.A (do let _ ← comprehension (.ListComp elt [⟨tg, iter, ifs, 0⟩] scope pos) scope X.env _ (newList []) false (eval iter X.env) (some (assign (.Name y py) X.env))) _ _ s
  refine wpAny_bind (wpAny_mono (wpAny_comprehension_free (use := some (assign (.Name y py) X.env)) (Q := fun _ s' => SP X pins Dn .next s') rfl hs hcl.run hkind hnames
    (thn (hi pins s σ H _ I h) fun v s1 h1 => thn h1 fun itv s2 h2 => ?_)) (fun _ s' hq => wpAny_pure (wpAny_pure hq)) fun _ _ e => e)
  obtain ⟨it, fp, tn, J, H2, rfl, I2, T, st2, f2, q⟩ := h2
  refine wpAny_newObj_type (wpAny_newFunctionEnv hcell (by intro y hy; simp at hy) (fun h₁ hns₁ hsb₁ => ?_) hkind)
  dsimp only at hns₁ hsb₁ ⊢
  have hfo : ∀ b ∈ fp, b < s2.heap.objs.size := fun b hb => by
    obtain ⟨o, e, _⟩ := T.obj _ _ st2 b hb
    exact Heap.lt_size e
  have hDf : H2 s2.heap.objs.size = none := I2.hok.fresh (Nat.le_refl _)
  obtain ⟨W, ⟨m0, w0⟩, turn⟩ := q s2.heap.objs.size hDf
  have I3 : Inv X pins σ (upd H2 s2.heap.objs.size (.lst [])) { s2 with heap := s2.heap.push { cls := .type "list", data := .seq ([] : List Value).toArray } } := I2.lnew (its := []) (t' := s2.toks) .nil (Nat.zero_le _)
  have f3 : ∀ b ∈ fp, FpOk X pins (upd H2 s2.heap.objs.size (.lst [])) b := fun b hb => ⟨by rw [upd_ne (Nat.ne_of_lt (hfo b hb))]; exact (f2 b hb).1, (f2 b hb).2⟩
  generalize hD : s2.heap.objs.size = D at *
  generalize hs3 : ({ s2 with heap := s2.heap.push { cls := .type "list", data := .seq ([] : List Value).toArray } } : Shared) = s3 at *
  have hh3 : s3.heap = s2.heap.push { cls := .type "list", data := .seq ([] : List Value).toArray } := by rw [← hs3]
  have hsz3 : s2.heap.objs.size < s3.heap.objs.size := by rw [hh3, Heap.size_push]; exact Nat.lt_succ_self _
  have e3 : ∀ h t, ({ s2 with heap := h, toks := t } : Shared) = { s3 with heap := h, toks := t } := fun h t => by rw [← hs3]
  rw [← hh3] at hns₁ hsb₁ ⊢
  have hk3 : ∀ b o, s3.heap.get? b = some o → h₁.get? b = some o := fun b o e => hsb₁.extBut b o (Nat.ne_of_lt (Heap.lt_size e)) (Heap.get?_push_of_some _ e)
  have I4 := blk_start (t' := s3.toks) I3 hkind hcl (hN σ I.len) f3 (fun b hb => Nat.lt_trans (hfo b hb) (hD ▸ hsz3)) (hns := by simpa using hns₁) hk3
  generalize hB : blk X N' scope cl s3.heap.objs.size s3 (upd H2 D (.lst [])) fp (X.pn ++ pins) = B at *
  have hBp : B.prog = X.prog := by rw [← hB]; rfl
  have hBw : B.w = X.w := by rw [← hB]; rfl
  have hBK : B.K = X.K := by rw [← hB]; rfl
  have hBA : B.A = X.A := by rw [← hB]; rfl
  have hBc : B.calm = true := by rw [← hB]; exact hc
  have hBe : B.env = compEnvC scope cl s3.heap.objs.size X.env := by rw [← hB]; rfl
  have hBx : B.xe = fun _ _ => False := by rw [← hB]; rfl
  have hGB : PG B tg g := hB ▸ hg _ _ _ _ _
  have hTB : PIfs B ifs tt := hB ▸ ht _ _ _ _ _
  have hEB : PE B elt te := hB ▸ he _ _ _ _ _
  have stat : ∀ {H' : Hp}, (∀ b ∈ fp, H' b = none) → ∀ b ∈ fp, FpOk B [] H' b := fun {H'} hn b hb => by
    obtain ⟨f0, f1, f2', f3', f4, f5⟩ := f3 b hb
    rw [← hB]
    refine ⟨hn b hb, Nat.ne_of_lt (Nat.lt_trans (hfo b hb) (hD ▸ hsz3)), fun z => ?_, .inl hb, fun x c e => f4 x c (hcl.sub x c e), fun p hp => ?_⟩
    · rcases List.mem_cons.mp (I.stkSub b z) with z | z
      · exact f1 z
      · exact f2' z
    · rw [show (blk X N' scope cl s3.heap.objs.size s3 (upd H2 D (.lst [])) fp (X.pn ++ pins)).pn = X.pn ++ pins from rfl, List.append_nil] at hp
      exact f5 p hp
  have loop : ∀ s4 : Shared, Inv B [] (σf σ) (upd H2 D (.lst [])) s4 → tn 0 s4.heap →
      codeAny (model X.prog X.w) X.A (.compLoop (.ListComp elt [⟨tg, iter, ifs, 0⟩] scope pos) 0 (.ref it) (.ref D) (compEnvC scope cl s3.heap.objs.size X.env)) (compPost (model X.prog X.w) X.A X.xe (some (assign (.Name y py) X.env)) (fun _ s' => SP X pins Dn .next s') (.ref D) s3.heap.objs.size) s4 := by
    intro s4 I4 st4
    refine compLoop_gen (I := fun n s' => ∃ i ys H', Inv B [] (σf σ) H' s' ∧ tn i s'.heap ∧ (∀ b ∈ fp, H' b = none) ∧ W i n ys H') ?_ m0 ⟨0, [], _, I4, st4, fun b hb => (f3 b hb).1, w0⟩
    rintro n s5 ⟨i, ys, H5, I5, st5, fr5, w5⟩
    obtain ⟨hD5, hlen5, alt⟩ := turn i n ys H5 w5
    rcases alt with ⟨stop, qn⟩ | ⟨go, step⟩
    · have z := T.done B hBp hBw hBK hBc i [] s5 (σf σ) H5 (fun _ _ => False) I5 (stat fr5) st5 stop
      rw [hBA] at z
      refine thn z fun r s6 ⟨hr, I6⟩ => ?_
      subst hr
      obtain ⟨m6, hn6, _⟩ := I6.loc
      rw [hBe] at hn6
      subst hB
      have I6x : Inv X pins σ H5 s6 := blk_end I3 f3 I6 (h'' := s6.heap) ⟨rfl, fun _ _ => rfl⟩
      have fC : FpOk X pins H5 s3.heap.objs.size := I3.fpOk (Nat.le_refl _) I6.free
      obtain ⟨g0, g1, g2, g3, g4, g5⟩ := id fC
      obtain ⟨oC, es, ep, hoC, hdC, rest⟩ := hn6
      have I6p := I6x.pinned (fp := [s3.heap.objs.size]) (fun b hb => by rw [List.mem_singleton.mp hb]; exact fC) (fun b hb => ⟨oC, by rw [List.mem_singleton.mp hb]; exact hoC, fun v e => by rw [hdC] at e; cases e⟩)
      show wpAny (model X.prog X.w) X.A (assign (.Name y py) X.env (.ref D)) _ X.xe s6
      refine thn (pg_name (i := iy) (pos := py) hnd hiy hy hfy _ s6 σ H5 (.ref D) (.ref D) (fun σ' H' => Dn.nx σ' H') I6p rfl qn) fun _ s7 ⟨σ7, H7, I7, q7⟩ => ?_
      have pc := I7.pin (s3.heap.objs.size, oC) (List.mem_append_right _ (List.mem_append_right _ (mem_pinsAt (by simp) hoC)))
      refine ⟨m6, ⟨oC, es, ep, pc.1, hdC, rest⟩, fun h' hs' => ⟨σ7, H7, ?_, q7⟩⟩
      exact I7.unpinned.turned (t' := s7.toks) (fun b o hb e => hs'.extBut b o hb e) pc.2.1 g1 g3 g4 g5
    · have z := T.item B hBp hBw hBK hBc i [] s5 (σf σ) H5 (fun _ _ => False) I5 (stat fr5) st5 go
      rw [hBA] at z
      refine thn z fun r s6 ⟨u, hr, h6⟩ => ?_
      subst hr
      refine thn h6 fun _ s7 ⟨x, H7, I7, r7, y7, st7, fr7⟩ => ?_
      have I7' := I7.pinned (stat fr7) (T.obj _ _ st7)
      have z8 := hGB _ s7 (σf σ) H7 x u _ I7' r7 (step x H7 y7)
      rw [hBp, hBw, hBA, hBe, hBx] at z8
      refine thn z8 fun _ s8 ⟨σ8, H8, I8, k8, q8⟩ => ?_
      have z9 := hTB _ s8 σ8 H8 _ I8 q8
      rw [hBp, hBw, hBA, hBe, hBx] at z9
      refine thn z9 fun ok s9 ⟨H9, I9, q9⟩ => ?_
      have again : ∀ {ys' : List V} {H' : Hp} {s' : Shared}, Inv B ([] ++ pinsAt fp s7.heap) σ8 H' s' → (∃ m', m' < n ∧ W (i + 1) m' ys' H') → ∃ m, m < n ∧ ∃ i ys H', Inv B [] (σf σ) H' s' ∧ tn i s'.heap ∧ (∀ b ∈ fp, H' b = none) ∧ W i m ys H' := fun {ys' H' s'} J ⟨m', hm, w'⟩ => by
        refine ⟨m', hm, i + 1, ys', H', J.unpinned.weak k8.len.symm k8.at', T.keep _ _ _ st7 fun b hb o e => (J.pin (b, o) (List.mem_append_right _ (List.mem_append_right _ (mem_pinsAt hb e)))).1, fun b hb => ?_, w'⟩
        obtain ⟨o, e, d⟩ := T.obj _ _ st7 b hb
        exact (J.pin (b, o) (List.mem_append_right _ (List.mem_append_right _ (mem_pinsAt hb e)))).2.1
      cases ok with
      | false => exact again I9 q9
      | true =>
        have z10 := hEB _ s9 σ8 H9 _ I9 q9
        rw [hBp, hBw, hBA, hBe, hBx] at z10
        refine thn z10 fun y10 s10 ⟨y, H10, I10, r10, hD10, q10⟩ => ?_
        have z11 := mt_append (X := B) _ s10 σ8 H10 (.ref D) [y] (.ref D) [y10] (fun _ H' => ∃ m', m' < n ∧ W (i + 1) m' (ys ++ [y]) H') I10 rfl (.cons r10 .nil) ⟨D, ys, y, rfl, rfl, hD10, hlen5, q10⟩
        rw [hBp, hBw, hBA, hBx] at z11
        refine thn z11 fun _ s11 ⟨_, H11, I11, _, q11⟩ => again I11 q11
  have st4 : tn 0 ({ s3 with heap := h₁, toks := s3.toks } : Shared).heap := T.keep _ _ _ st2 fun b hb o e => hk3 b o (by rw [hh3]; exact Heap.get?_push_of_some _ e)
  have L4 := loop _ I4 st4
  subst hs3
  exact codeAny_compStart_list L4 (T.self _ 0 _ _ _ st4 L4)
end L2

namespace L2
open PySem PySem.Spec PyProof.Rows
/-! ### comprehensions, by what each element is -/
/-- an iterator that gives the things xs, as long as the heap only grows -/
structure Ys (J : It) (xs : List V) (H1 : Hp) : Prop where
  go : ∀ i H, Same H1 H → i < xs.length → J.go i H
  yld : ∀ i H x H', Same H1 H → i < xs.length → J.yld i H x H' → H' = H ∧ xs[i]? = some x
  stop : ∀ i H, Same H1 H → xs.length ≤ i → J.stop i H
theorem Ys.list {K : PySem.W.Frag} {a : Addr} {xs : List V} {H1 : Hp} (h : SqL K H1 a xs) : Ys (Itl K a) xs H1 where
  go := fun i H s hi => ⟨xs, xs[i], s.seq h, List.getElem?_eq_getElem hi⟩
  yld := fun i H x H' s _ y => ⟨y.1, y.2 xs (s.seq h)⟩
  stop := fun i H s hi => ⟨xs, s.seq h, hi⟩
def rngV (lo : Int) (n : Nat) : List V := (List.range n).map fun (i : Nat) => V.int (lo + (i : Int))
theorem rngV_len (lo : Int) (n : Nat) : (rngV lo n).length = n := by unfold rngV; rw [List.length_map, List.length_range]
theorem rngV_get {lo : Int} {n i : Nat} {x : V} (h : (rngV lo n)[i]? = some x) : i < n ∧ x = .int (lo + i) := by
  have hi : i < n := by rw [← rngV_len lo n]; exact (List.getElem?_eq_some_iff.mp h).1
  unfold rngV at h
  rw [List.getElem?_map, List.getElem?_range hi] at h
  exact ⟨hi, (Option.some.inj h).symm⟩
theorem Ys.rng {lo : Int} {n : Nat} {H1 : Hp} : Ys (Itr lo n) (rngV lo n) H1 where
  go := fun i H _ hi => by rw [rngV_len] at hi; exact hi
  yld := fun i H x H' _ hi y => ⟨y.1, by
    obtain ⟨_, rfl⟩ := y
    rw [rngV_len] at hi
    unfold rngV
    rw [List.getElem?_map, List.getElem?_range hi]
    rfl⟩
  stop := fun i H _ hi => by rw [rngV_len] at hi; exact hi
theorem snoc_get {α : Type} {ys : List α} {y z : α} {j : Nat} (h : (ys ++ [y])[j]? = some z) : (j < ys.length ∧ ys[j]? = some z) ∨ (j = ys.length ∧ z = y) := by
  by_cases hj : j < ys.length
  · rw [List.getElem?_append_left hj] at h
    exact .inl ⟨hj, h⟩
  · rw [List.getElem?_append_right (by omega)] at h
    have e0 : j - ys.length = 0 := by
      cases hz : j - ys.length with
      | zero => rfl
      | succ n => rw [hz] at h; simp at h
    rw [e0] at h
    exact .inr ⟨by omega, by simpa using h.symm⟩
theorem comp_rel {J : It} {xs : List V} {D : Addr} {g : TG} {te : TE} {σ0 : St} {QD : Hp → Prop} {H1 : Hp} (Y : Ys J xs H1) (Pr : Nat → V → V → Hp → Prop) (hP : ∀ i x y H H', Pr i x y H → Tk H H' → Pr i x y H') (hD : H1 D = none) (hl : xs.length ≤ 1000)
    (hs : ∀ i x H' (R : VK), xs[i]? = some x → Same H1 H' → (∀ y H4, Same H' H4 → Pr i x y H4 → R y H4) → g x σ0 H' fun σ2 H2 => Keep σ0 σ2 ∧ te σ2 H2 R)
    (hd : ∀ ys H', Same H1 H' → H' D = some (.lst ys) → ys.length = xs.length → (∀ i x y, xs[i]? = some x → ys[i]? = some y → Pr i x y H') → QD H') :
    ∃ W : Nat → Nat → List V → Hp → Prop, (∃ m, W 0 m [] (upd H1 D (.lst []))) ∧ ∀ i m ys H, W i m ys H → H D = some (.lst ys) ∧ ys.length < sizeLine ∧
      ((J.stop i H ∧ QD H) ∨ (J.go i H ∧ ∀ x H', J.yld i H x H' → g x σ0 H' fun σ2 H2 => Keep σ0 σ2 ∧ tNoIf σ2 H2 fun b H3 =>
        if b = true then te σ2 H3 fun y H4 => H4 D = some (.lst ys) ∧ ∃ m', m' < m ∧ W (i + 1) m' (ys ++ [y]) (upd H4 D (.lst (ys ++ [y]))) else ∃ m', m' < m ∧ W (i + 1) m' ys H3)) := by
  refine ⟨fun i m ys H => m = xs.length - i ∧ i ≤ xs.length ∧ Same H1 H ∧ H D = some (.lst ys) ∧ ys.length = i ∧ ∀ j x y, xs[j]? = some x → ys[j]? = some y → Pr j x y H,
    ⟨_, rfl, Nat.zero_le _, Same.upd hD, upd_same, rfl, fun j x y _ h => by simp at h⟩, ?_⟩
  rintro i m ys H ⟨rfl, hi, sm, hDH, yl, pr⟩
  refine ⟨hDH, small1000 (by omega), ?_⟩
  by_cases hlt : i < xs.length
  · refine .inr ⟨Y.go i H sm hlt, fun x H' y => ?_⟩
    obtain ⟨rfl, hx⟩ := Y.yld i H x H' sm hlt y
    refine hs i x H' _ hx sm fun y H4 s4 py => ?_
    have hD4 := s4 _ _ hDH
    have tk : Tk H4 (upd H4 D (.lst (ys ++ [y]))) := Tk.lst hD4
    refine ⟨hD4, xs.length - (i + 1), by omega, rfl, hlt, fun b o hb => ?_, upd_same, by rw [List.length_append, yl]; rfl, fun j x' y' hx' hy' => ?_⟩
    · rw [upd_ne (ne_of_none hb hD)]
      exact s4 _ _ (sm _ _ hb)
    · rcases snoc_get hy' with ⟨_, hy'⟩ | ⟨e, e'⟩
      · exact hP _ _ _ _ _ (hP _ _ _ _ _ (pr j x' y' hx' hy') (Same.tk s4)) tk
      · subst e'
        have : j = i := by omega
        subst this
        rw [hx] at hx'
        cases hx'
        exact hP _ _ _ _ _ py tk
  · have e : i = xs.length := by omega
    subst e
    exact .inl ⟨Y.stop _ H sm (Nat.le_refl _), hd ys H sm hDH yl pr⟩
/-! ### rules within a comprehension: the module is named, so that the reading does not hang on the block -/
/-- a comprehension with a test -/
theorem comp_filt {J : It} {xs : List V} {D : Addr} {g : TG} {tt : TT} {te : TE} {σ0 : St} {QD : Hp → Prop} {H1 : Hp} (Y : Ys J xs H1) (p : V → Bool) (Pr : V → V → Hp → Prop) (hP : ∀ x y H H', Pr x y H → Tk H H' → Pr x y H') (hD : H1 D = none) (hl : xs.length ≤ 1000)
    (hs : ∀ (i : Nat) x H' (R1 : VK) (R2 : Hp → Prop), xs[i]? = some x → Same H1 H' → (p x = true → ∀ y H4, Same H' H4 → Pr x y H4 → R1 y H4) → (p x = false → ∀ H4, Same H' H4 → R2 H4) → g x σ0 H' fun σ2 H2 => Keep σ0 σ2 ∧ tt σ2 H2 fun b H3 => if b = true then te σ2 H3 R1 else R2 H3)
    (hd : ∀ ys H', Same H1 H' → H' D = some (.lst ys) → ys.length = (xs.filter p).length → (∀ (i : Nat) x y, (xs.filter p)[i]? = some x → ys[i]? = some y → Pr x y H') → QD H') :
    ∃ W : Nat → Nat → List V → Hp → Prop, (∃ m, W 0 m [] (upd H1 D (.lst []))) ∧ ∀ i m ys H, W i m ys H → H D = some (.lst ys) ∧ ys.length < sizeLine ∧
      ((J.stop i H ∧ QD H) ∨ (J.go i H ∧ ∀ x H', J.yld i H x H' → g x σ0 H' fun σ2 H2 => Keep σ0 σ2 ∧ tt σ2 H2 fun b H3 =>
        if b = true then te σ2 H3 fun y H4 => H4 D = some (.lst ys) ∧ ∃ m', m' < m ∧ W (i + 1) m' (ys ++ [y]) (upd H4 D (.lst (ys ++ [y]))) else ∃ m', m' < m ∧ W (i + 1) m' ys H3)) := by
  refine ⟨fun i m ys H => m = xs.length - i ∧ i ≤ xs.length ∧ Same H1 H ∧ H D = some (.lst ys) ∧ ys.length = ((xs.take i).filter p).length ∧ ∀ (j : Nat) x y, ((xs.take i).filter p)[j]? = some x → ys[j]? = some y → Pr x y H,
    ⟨_, rfl, Nat.zero_le _, Same.upd hD, upd_same, rfl, fun j x y _ h => by simp at h⟩, ?_⟩
  rintro i m ys H ⟨rfl, hi, sm, hDH, yl, pr⟩
  have yl' : ys.length ≤ xs.length := by
    rw [yl]
    exact Nat.le_trans (List.length_filter_le _ _) (by rw [List.length_take]; omega)
  refine ⟨hDH, small1000 (by omega), ?_⟩
  by_cases hlt : i < xs.length
  · refine .inr ⟨Y.go i H sm hlt, fun x H' y => ?_⟩
    obtain ⟨rfl, hx⟩ := Y.yld i H x H' sm hlt y
    have et : xs.take (i + 1) = xs.take i ++ [x] := by rw [List.take_add_one, hx]; rfl
    refine hs i x H' _ _ hx sm (fun px y H4 s4 py => ?_) (fun px H4 s4 => ?_)
    · have hD4 := s4 _ _ hDH
      have tk : Tk H4 (upd H4 D (.lst (ys ++ [y]))) := Tk.lst hD4
      refine ⟨hD4, xs.length - (i + 1), by omega, rfl, hlt, fun b o hb => ?_, upd_same, ?_, fun j x' y' hx' hy' => ?_⟩
      · rw [upd_ne (ne_of_none hb hD)]
        exact s4 _ _ (sm _ _ hb)
      · rw [et, List.filter_append, List.length_append, List.length_append, yl, List.filter_cons_of_pos px]
        rfl
      · rw [et, List.filter_append, List.filter_cons_of_pos px] at hx'
        rcases snoc_get hx' with ⟨h1, hx'⟩ | ⟨h1, hx'⟩
        · rcases snoc_get hy' with ⟨_, hy'⟩ | ⟨e, _⟩
          · exact hP _ _ _ _ (hP _ _ _ _ (pr j x' y' hx' hy') (Same.tk s4)) tk
          · omega
        · rcases snoc_get hy' with ⟨h2, _⟩ | ⟨_, hy'⟩
          · omega
          · subst hx' hy'
            exact hP _ _ _ _ py tk
    · refine ⟨xs.length - (i + 1), by omega, rfl, hlt, sm.trans s4, s4 _ _ hDH, ?_, fun j x' y' hx' hy' => ?_⟩
      · rw [et, List.filter_append, List.filter_cons_of_neg (by rw [px]; exact Bool.false_ne_true), List.filter_nil, List.append_nil, yl]
      · rw [et, List.filter_append, List.filter_cons_of_neg (by rw [px]; exact Bool.false_ne_true), List.filter_nil, List.append_nil] at hx'
        exact hP _ _ _ _ (pr j x' y' hx' hy') (Same.tk s4)
  · have e : i = xs.length := by omega
    subst e
    rw [List.take_length] at yl pr
    exact .inl ⟨Y.stop _ H sm (Nat.le_refl _), hd ys H sm hDH yl pr⟩
end L2

namespace L2
open PySem PySem.Spec PyProof.Rows
/-! ### zip of a tuple and a list -/
section
variable {prog : Program} {w : World} {A : Around} {E : Value → Shared → Prop} {s : Shared}
/-- the objects of a zip are apart -/
structure Ap (z TI TO i1 i2 : Addr) (f1 f2 : List Addr) : Prop where
  a1 : ∀ b ∈ f1, b ≠ z ∧ b ≠ TO ∧ b ≠ i2
  a2 : ∀ b ∈ f2, b ≠ z ∧ b ≠ TO ∧ b ≠ i1
  m1 : i1 ∈ f1
  m2 : i2 ∈ f2
  tz : TI ≠ z
  tO : TI ≠ TO
  t1 : TI ≠ i1
  t2 : TI ≠ i2
  oz : TO ≠ z
section
variable {z TI TO i1 i2 : Addr} {f1 f2 : List Addr} {n1 n2 k : Nat} {P1 P2 : Nat → Value → Prop} {S1 S2 : Nat → Heap → Prop} {a b : Value}
end
end
/-- the i-th items of a tuple and of a list, in a new tuple -/
def Itz (K : PySem.W.Frag) (a b : Addr) : It :=
  ⟨fun i H => ∃ xs ys, SqT K H a xs ∧ SqL K H b ys ∧ i < xs.length ∧ i < ys.length,
   fun i H v H' => ∃ T, H T = none ∧ v = .ref T ∧ ∀ xs ys, SqT K H a xs → SqL K H b ys → ∃ x y, xs[i]? = some x ∧ ys[i]? = some y ∧ H' = upd H T (.tup [x, y]),
   fun i H => ∃ xs ys, SqT K H a xs ∧ SqL K H b ys ∧ (i = xs.length ∨ (i < xs.length ∧ i = ys.length))⟩
theorem Inv.turnedL {X : Cx} {pins : List (Addr × Obj)} {σ : St} {H : Hp} {s : Shared} {h' : Heap} {t' : Nat} {ch : List Addr} (I : Inv X pins σ H s) (k : ∀ b o, b ∉ ch → s.heap.get? b = some o → h'.get? b = some o) (hf : ∀ b ∈ ch, FpOk X pins H b) : Inv X pins σ H { s with heap := h', toks := t' } := by
  have nit : ∀ b u, H b = some u → b ∉ ch := fun b u e z => by rw [(hf b z).1] at e; cases e
  refine I.step (g' := s.gens) (d' := s.drawn) (ch := ch) (fun b hb => ⟨(hf b hb).2.2.2.1, (hf b hb).2.1, (hf b hb).2.2.2.2.1, (hf b hb).2.2.2.2.2⟩) (fun b o _ _ hc e _ => k b o hc e) (fun b o _ _ hc e _ => ⟨o.slots, k b o hc e⟩) (fun _ _ _ _ n => n)
    (fun b o hc e => ⟨o, k b o hc e⟩) (fun _ _ e => e) (fun _ _ _ e => e) (fun b ps e => ⟨#[], by rw [e]; simp⟩) (fun m hm => ?_) (fun b u e => ?_) I.bare
  · obtain ⟨o, es, ep, ho, r⟩ := hm
    exact ⟨o, es, ep, k _ o (fun z => (hf _ z).2.1 rfl) ho, r⟩
  · refine (I.hok b u e).stay (fun c v hc q => k c v ?_ q) (fun _ q => q) fun _ _ q => q
    rcases hc with z | z
    · rw [z]; exact nit b u e
    · exact nit c _ z
/-- a zip's objects, laid one behind another from n on -/
def ZipSt (n a b : Nat) (i : Nat) (h : Heap) : Prop := IsZip h (n + 4) (n + 2) (n + 3) .none ∧ IsPair h (n + 2) (.ref n) (.ref (n + 1)) ∧ (∃ x y, IsPair h (n + 3) x y) ∧ h.IsTupleIter n a i ∧ h.IsListIter (n + 1) b i
abbrev zo1 (h : Heap) (a : Addr) : Heap := h.push { cls := .type "tuple_iterator", data := .fields #[.ref a, .int 0 0] }
abbrev zo2 (h : Heap) (a b : Addr) : Heap := (zo1 h a).push { cls := .type "list_iterator", data := .fields #[.ref b, .int 0 0] }
abbrev zo3 (h : Heap) (a b : Addr) : Heap := (zo2 h a b).push { cls := .type "tuple", data := .seq #[.ref h.objs.size, .ref (zo1 h a).objs.size] }
abbrev zo4 (h : Heap) (a b : Addr) : Heap := (zo3 h a b).push { cls := .type "tuple", data := .seq #[.none, .none] }
abbrev zo5 (h : Heap) (a b : Addr) : Heap := (zo4 h a b).push { cls := .type "zip", data := .fields #[.none, .bool false, .bool false, .ref (zo2 h a b).objs.size, .ref (zo3 h a b).objs.size] }
def iZip (K : PySem.W.Frag) (ta : TA) : TI := fun σ H R => ta σ H fun vs H1 => ∃ a b, vs = [.ref a, .ref b] ∧ (∃ xs, SqT K H1 a xs) ∧ (∃ ys, SqL K H1 b ys) ∧ R (Itz K a b) H1
end L2

namespace L2
open PySem PySem.Spec PyProof.Rows

/-! ### lists of pairs as tables -/
section
variable {κ : Type} [DecidableEq κ]
def valV (kvs : List (κ × V)) (k : κ) : Option V := (kvs.find? fun kv => decide (kv.1 = k)).map (·.2)
/-- in its place, or at the end -/
def putK (kvs : List (κ × V)) (k : κ) (v : V) : List (κ × V) :=
  if (kvs.any fun kv => decide (kv.1 = k)) = true then kvs.map (fun kv => if kv.1 = k then (kv.1, v) else kv) else kvs ++ [(k, v)]
def dropK (kvs : List (κ × V)) (k : κ) : List (κ × V) := kvs.filter fun kv => decide (kv.1 ≠ k)

theorem valV_pos {p : κ × V} {r : List (κ × V)} {k : κ} (e : p.1 = k) : valV (p :: r) k = some p.2 := by simp [valV, List.find?_cons, e]
theorem valV_neg {p : κ × V} {r : List (κ × V)} {k : κ} (e : ¬ p.1 = k) : valV (p :: r) k = valV r k := by simp [valV, List.find?_cons, e]
theorem valV_any (k : κ) : ∀ kvs : List (κ × V), (kvs.any fun kv => decide (kv.1 = k)) = (valV kvs k).isSome
  | [] => rfl
  | p :: r => by
    rw [List.any_cons]
    by_cases e : p.1 = k
    · simp only [valV_pos e, decide_eq_true e, Bool.true_or, Option.isSome_some]
    · rw [valV_neg e, decide_eq_false e, Bool.false_or]; exact valV_any k r
theorem valV_map (k j : κ) (y : V) : ∀ kvs : List (κ × V), valV (kvs.map fun kv => if kv.1 = k then (kv.1, y) else kv) j = (valV kvs j).map fun x => if j = k then y else x
  | [] => rfl
  | p :: r => by
    have ih := valV_map k j y r
    rw [List.map_cons]
    by_cases h : p.1 = k
    · rw [if_pos h]
      by_cases e : p.1 = j
      · rw [valV_pos (p := (p.1, y)) e, valV_pos e, Option.map_some, if_pos (e.symm.trans h)]
      · rw [valV_neg (p := (p.1, y)) e, valV_neg e, ih]
    · rw [if_neg h]
      by_cases e : p.1 = j
      · rw [valV_pos (p := p) e, valV_pos e, Option.map_some, if_neg (fun z => h (e.trans z))]
      · rw [valV_neg (p := p) e, valV_neg e, ih]
theorem valV_snoc (k j : κ) (y : V) : ∀ kvs : List (κ × V), valV kvs k = none → valV (kvs ++ [(k, y)]) j = if j = k then some y else valV kvs j
  | [], _ => by
    by_cases e : k = j
    · rw [if_pos e.symm]; exact valV_pos (p := (k, y)) e
    · rw [if_neg (fun z => e z.symm)]; exact valV_neg (p := (k, y)) e
  | p :: r, hn => by
    rw [List.cons_append]
    have hk : ¬ p.1 = k := fun z => by rw [valV_pos z] at hn; cases hn
    rw [valV_neg hk] at hn
    have ih := valV_snoc k j y r hn
    by_cases e : p.1 = j
    · rw [valV_pos e, valV_pos e, if_neg (fun z => hk (e.trans z))]
    · rw [valV_neg e, valV_neg e, ih]
theorem valV_put (kvs : List (κ × V)) (k j : κ) (y : V) : valV (putK kvs k y) j = if j = k then some y else valV kvs j := by
  unfold putK
  by_cases a : (kvs.any fun kv => decide (kv.1 = k)) = true
  · rw [if_pos a, valV_map]
    rw [valV_any] at a
    by_cases e : j = k
    · obtain ⟨x, hx⟩ := Option.isSome_iff_exists.mp a
      rw [if_pos e, e, hx, Option.map_some, if_pos rfl]
    · rw [if_neg e]
      cases valV kvs j with
      | none => rfl
      | some x => rw [Option.map_some, if_neg e]
  · rw [if_neg a]
    refine valV_snoc k j y kvs ?_
    rw [valV_any] at a
    cases q : valV kvs k with
    | none => rfl
    | some x => rw [q] at a; exact (a rfl).elim
theorem length_putK (kvs : List (κ × V)) (k : κ) (v : V) : (putK kvs k v).length ≤ kvs.length + 1 := by
  unfold putK
  split
  · rw [List.length_map]; omega
  · rw [List.length_append, List.length_cons, List.length_nil]; omega
theorem putK_new {kvs : List (κ × V)} {k : κ} (v : V) (h : valV kvs k = none) : putK kvs k v = kvs ++ [(k, v)] := by
  unfold putK
  rw [valV_any, h]
  exact if_neg (by decide)

theorem RelO.isSome_eq {o : Option V} {u : Option Value} (r : RelO o u) : o.isSome = u.isSome := by
  cases o with
  | none => cases u with
    | none => rfl
    | some _ => exact (show False from r).elim
  | some _ => cases u with
    | none => exact (show False from r).elim
    | some _ => rfl
/-- raw tables of the same keys -/
theorem KV.val {kvs : List (κ × V)} {vs : List (κ × Value)} (r : KV kvs vs) (k : κ) : RelO (valV kvs k) (valueAt vs k) := by
  unfold KV at r
  induction r with
  | nil => exact True.intro
  | @cons p q ps qs h t ih =>
    obtain ⟨h1, h2⟩ := h
    by_cases e : p.1 = k
    · have e' : q.1 = k := h1.symm.trans e
      have b : valueAt (q :: qs) k = some q.2 := by simp [valueAt, List.find?_cons, e']
      rw [valV_pos e, b]; exact h2
    · have e' : ¬ q.1 = k := fun z => e (h1.trans z)
      have b : valueAt (q :: qs) k = valueAt qs k := by simp [valueAt, List.find?_cons, e']
      rw [valV_neg e, b]; exact ih
theorem KV.any {kvs : List (κ × V)} {vs : List (κ × Value)} (r : KV kvs vs) (k : κ) : (kvs.any fun kv => decide (kv.1 = k)) = vs.any fun kv => decide (kv.1 = k) := by
  unfold KV at r
  induction r with
  | nil => rfl
  | cons h t ih => rw [List.any_cons, List.any_cons, ih, h.1]
theorem KV.repl {kvs : List (κ × V)} {vs : List (κ × Value)} (r : KV kvs vs) (k : κ) {y : V} {u : Value} (ry : RelV y u) :
    KV (kvs.map fun kv => if kv.1 = k then (kv.1, y) else kv) (vs.map fun kv => if kv.1 = k then (kv.1, u) else kv) := by
  unfold KV at r ⊢
  induction r with
  | nil => exact .nil
  | @cons p q ps qs h t ih =>
    rw [List.map_cons, List.map_cons]
    refine .cons ?_ ih
    obtain ⟨h1, h2⟩ := h
    by_cases e : p.1 = k
    · rw [if_pos e, if_pos (h1.symm.trans e)]; exact ⟨h1, ry⟩
    · rw [if_neg e, if_neg (fun z => e (h1.trans z))]; exact ⟨h1, h2⟩
theorem KV.put {kvs : List (κ × V)} {vs : List (κ × Value)} (r : KV kvs vs) (k : κ) {y : V} {u : Value} (ry : RelV y u) : KV (putK kvs k y) (stored vs k u) := by
  unfold putK stored
  rw [r.any k]
  by_cases e : (vs.any fun kv => decide (kv.1 = k)) = true
  · rw [if_pos e, if_pos e]; exact r.repl k ry
  · rw [if_neg e, if_neg e]; exact Paired.snoc r ⟨rfl, ry⟩
theorem KV.keys {kvs : List (κ × V)} {vs : List (κ × Value)} (r : KV kvs vs) : kvs.map (·.1) = vs.map (·.1) := by
  unfold KV at r
  induction r with
  | nil => rfl
  | cons h t ih => rw [List.map_cons, List.map_cons, ih, h.1]
theorem KV.length {kvs : List (κ × V)} {vs : List (κ × Value)} (r : KV kvs vs) : kvs.length = vs.length := Paired.length r
end


/-! ### a tracked dict, its keys ints and texts or tuples of these -/
theorem kV_is {P : Program} {w : World} {k : Key} {u : Value} (r : RelV (kV k) u) : (mixKind P w).is k u = true := by
  cases k with
  | inl i => obtain ⟨t, e⟩ := (show ∃ t, u = Value.int i t from r); subst e; exact mixKind_int P w i t
  | inr x => obtain ⟨t, e⟩ := (show ∃ t, u = Value.str x t from r); subst e; exact mixKind_str P w x t
theorem items_are {P : Program} {w : World} : ∀ {ks : List Key} {us : List Value}, Vals (ks.map kV) us → ItemsAre (mixKind P w) ks us
  | [], _, r => by rw [List.map_nil] at r; cases r; exact .nil
  | k :: ks, _, r => by
    rw [List.map_cons] at r
    cases r with
    | cons h t => exact .cons (kV_is h) (items_are t)

/-- raw entries of a dict with tuple keys -/
abbrev KT (H : Hp) : List (List Key × V) → List (List Key × Addr × Value) → Prop := Paired fun p q => p.1 = q.1 ∧ H q.2.1 = some (.tup (p.1.map kV)) ∧ RelV p.2 q.2.2
theorem KT.val {H : Hp} {kvs : List (List Key × V)} {xs : List (List Key × Addr × Value)} (r : KT H kvs xs) (k : List Key) : RelO (valV kvs k) ((atKey xs k).map (·.2)) := by
  induction r with
  | nil => exact True.intro
  | @cons p q ps qs h t ih =>
    obtain ⟨h1, _, h2⟩ := h
    by_cases e : p.1 = k
    · have e' : q.1 = k := h1.symm.trans e
      have b : atKey (q :: qs) k = some q.2 := by simp [atKey, List.find?_cons, e']
      rw [valV_pos e, b]; exact h2
    · have e' : ¬ q.1 = k := fun z => e (h1.trans z)
      have b : atKey (q :: qs) k = atKey qs k := by simp [atKey, List.find?_cons, e']
      rw [valV_neg e, b]; exact ih
theorem KT.repl {H : Hp} {kvs : List (List Key × V)} {xs : List (List Key × Addr × Value)} (r : KT H kvs xs) (k : List Key) {y : V} {u : Value} (ry : RelV y u) :
    KT H (kvs.map fun kv => if kv.1 = k then (kv.1, y) else kv) (xs.map (putAt k u)) := by
  induction r with
  | nil => exact .nil
  | @cons p q ps qs h t ih =>
    rw [List.map_cons, List.map_cons]
    refine .cons ?_ ih
    obtain ⟨h1, h2, h3⟩ := h
    unfold putAt
    by_cases e : p.1 = k
    · rw [if_pos e, if_pos (h1.symm.trans e)]; exact ⟨h1, h2, ry⟩
    · rw [if_neg e, if_neg (fun z => e (h1.trans z))]; exact ⟨h1, h2, h3⟩
theorem KT.put {H : Hp} {kvs : List (List Key × V)} {xs : List (List Key × Addr × Value)} (r : KT H kvs xs) (k : List Key) {b : Addr} {y : V} {u : Value} (hb : H b = some (.tup (k.map kV))) (ry : RelV y u) :
    KT H (putK kvs k y) (storedH xs k b u) := by
  have e : (kvs.any fun kv => decide (kv.1 = k)) = (atKey xs k).isSome := by
    rw [valV_any, (r.val k).isSome_eq, Option.isSome_map]
  unfold putK storedH
  rw [e]
  by_cases q : (atKey xs k).isSome = true
  · rw [if_pos q, if_pos q]; exact r.repl k ry
  · rw [if_neg q, if_neg q]; exact Paired.snoc r ⟨rfl, hb, ry⟩
theorem KT.keeps {H H' : Hp} {kvs : List (List Key × V)} {xs : List (List Key × Addr × Value)} (r : KT H kvs xs) (ht : ∀ b ys, H b = some (.tup ys) → H' b = some (.tup ys)) : KT H' kvs xs :=
  Paired.mapP r fun _ _ z => ⟨z.1, ht _ _ z.2.1, z.2.2⟩

section
variable {P : Program} {w : World} {H : Hp} {h : Heap} {a : Addr}
theorem rd_of {u : HO} (ok : HOk P w H h) (e : Rd H a u) : ObjOk P w H h a u := e.ok ok
theorem dk_rd {kvs : List (Key × V)} (ok : HOk P w H h) (e : Rd H a (.dK kvs)) : kvs.length ≤ sizeLine ∧ (a == sysModules) = false ∧ ∃ vs, KV kvs vs ∧ h.DictOf (mixKind P w) a vs :=
  show ObjOk P w H h a (.dK kvs) from rd_of ok e
theorem dk_of {kvs : List (Key × V)} (ok : HOk P w H h) (e : H a = some (.dK kvs)) : kvs.length ≤ sizeLine ∧ (a == sysModules) = false ∧ ∃ vs, KV kvs vs ∧ h.DictOf (mixKind P w) a vs := dk_rd ok (.inl e)
/-- a tracked tuple of ints and texts is a key -/
theorem key_of {ks : List Key} (ok : HOk P w H h) (e : H a = some (.tup (ks.map kV))) : (tupleKind (mixKind P w)).is h ks a := by
  obtain ⟨_, its, r, o, h1, h2, n, h3⟩ := (show ObjOk P w H h a (.tup (ks.map kV)) from ok a _ e)
  exact ⟨o, its.toArray, n, h1, h2, h3, by simpa using items_are r⟩
theorem dt_rd {kvs : List (List Key × V)} (ok : HOk P w H h) (e : Rd H a (.dT kvs)) : kvs.length ≤ sizeLine ∧ (a == sysModules) = false ∧
    ∃ xs, KT H kvs xs ∧ h.DictOfH (tupleKind (mixKind P w)) a xs := by
  obtain ⟨z, y, xs, r, o, es, ep, h1, h2, h3, h4, h5⟩ := (show ObjOk P w H h a (.dT kvs) from rd_of ok e)
  refine ⟨z, y, xs, r, o, es, ep, h1, h2, h3, h4, fun x hx => ?_, h5⟩
  have all : ∀ {l : List (List Key × V)} {m : List (List Key × Addr × Value)}, KT H l m → ∀ x ∈ m, (tupleKind (mixKind P w)).is h x.1 x.2.1 := by
    intro l m q
    induction q with
    | nil => intro x hx; exact nomatch hx
    | @cons p q ps qs hq t ih =>
      intro x hx
      rcases List.mem_cons.mp hx with e | hx
      · subst e
        exact key_of ok (by rw [← hq.1]; exact hq.2.1)
      · exact ih x hx
  exact all r x hx
theorem dt_of {kvs : List (List Key × V)} (ok : HOk P w H h) (e : H a = some (.dT kvs)) : kvs.length ≤ sizeLine ∧ (a == sysModules) = false ∧
    ∃ xs, KT H kvs xs ∧ h.DictOfH (tupleKind (mixKind P w)) a xs := dt_rd ok (.inl e)
end

/-- what the dict at a holds at the key y -/
def DGet (H : Hp) (a : Addr) (y : V) (r : Option V) : Prop :=
  (∃ kvs k, Rd H a (.dK kvs) ∧ y = kV k ∧ r = valV kvs k) ∨ ∃ kvs k b, Rd H a (.dT kvs) ∧ y = .ref b ∧ H b = some (.tup (k.map kV)) ∧ r = valV kvs k
/-- the heap behind a[y] = v -/
def DPut (H : Hp) (a : Addr) (y v : V) (H' : Hp) : Prop :=
  (∃ kvs k, H a = some (.dK kvs) ∧ y = kV k ∧ kvs.length < sizeLine ∧ H' = upd H a (.dK (putK kvs k v))) ∨
  ∃ kvs k b, H a = some (.dT kvs) ∧ y = .ref b ∧ H b = some (.tup (k.map kV)) ∧ kvs.length < sizeLine ∧ H' = upd H a (.dT (putK kvs k v))
theorem DGet.k {H : Hp} {a : Addr} {kvs : List (Key × V)} {k : Key} (e : H a = some (.dK kvs)) : DGet H a (kV k) (valV kvs k) := .inl ⟨kvs, k, .inl e, rfl, rfl⟩
theorem DPut.k {H : Hp} {a : Addr} {kvs : List (Key × V)} {k : Key} {v : V} (e : H a = some (.dK kvs)) (hl : kvs.length < sizeLine) : DPut H a (kV k) v (upd H a (.dK (putK kvs k v))) := .inl ⟨kvs, k, e, rfl, hl, rfl⟩
section
variable {X : Cx} {pins : List (Addr × Obj)} {σ : St} {H : Hp} {s : Shared} {a : Addr} {y v : V} {u r : Value} {o : Option V} {A : Around} {E : Value → Shared → Prop}

theorem Inv.big (I : Inv X pins σ H s) : sysModules < s.heap.objs.size := by
  have h : mainGlobals < s.heap.objs.size := (I.mod.glob.keeps I.bk).lt
  exact Nat.lt_trans (by decide) h

/-- d[y], there -/
theorem d_getItem {Q : Value → Shared → Prop} (hu : A.units + 1 < cLine) (I : Inv X pins σ H s) (g : DGet H a y (some v)) (ry : RelV y u) (h : ∀ w' s', Inv X pins σ H s' → RelV v w' → Q w' s') :
    wpAny (model X.prog X.w) A (getItem (.ref a) u) Q E s := by
  rcases g with ⟨kvs, k, e, ey, l⟩ | ⟨kvs, k, b, e, ey, eb, l⟩
  · subst ey
    obtain ⟨z, hd, vs, rel, dd⟩ := dk_rd I.hok e
    obtain ⟨w', hw, rw'⟩ := RelO.some_of (v := v) (o := valueAt vs k) (by rw [l]; exact rel.val k)
    exact wpAny_getItem_of (kV_is ry) dd.mapOf hw (h w' _ (I.tok _) rw')
  · subst ey
    cases (show u = Value.ref b from ry)
    obtain ⟨z, hd, xs, rel, dd⟩ := dt_rd I.hok e
    obtain ⟨w', hw, rw'⟩ := RelO.some_of (v := v) (o := (atKey xs k).map (·.2)) (by rw [l]; exact rel.val k)
    obtain ⟨p, hp, hp2⟩ := Option.map_eq_some_iff.mp hw
    refine wpAny_getItem_heap (tupleKind_room_in1 hu) (key_of I.hok eb) dd hp ?_
    rw [hp2]
    exact h w' _ (I.tok _) rw'
theorem d_notIn {Q : Value → Shared → Prop} (hu : A.units + 1 < cLine) (I : Inv X pins σ H s) (g : DGet H a y o) (ry : RelV y u) (h : ∀ s', Inv X pins σ H s' → Q (.bool (!o.isSome)) s') :
    wpAny (model X.prog X.w) A (compareOp .NotIn u (.ref a)) Q E s := by
  rcases g with ⟨kvs, k, e, ey, l⟩ | ⟨kvs, k, b, e, ey, eb, l⟩
  · subst ey
    obtain ⟨z, hd, vs, rel, dd⟩ := dk_rd I.hok e
    refine wpAny_notIn_of (kV_is ry) hd dd.mapOf ?_
    rw [← (rel.val k).isSome_eq, ← l]
    exact h _ (I.tok _)
  · subst ey
    cases (show u = Value.ref b from ry)
    obtain ⟨z, hd, xs, rel, dd⟩ := dt_rd I.hok e
    refine wpAny_notIn_heap (tupleKind_room_in1 hu) (key_of I.hok eb) hd dd ?_
    have q := (rel.val k).isSome_eq
    rw [Option.isSome_map] at q
    rw [← q, ← l]
    exact h _ (I.tok _)
/-- a dict's object is replaced -/
theorem d_write {h' : Heap} {t' : Nat} {ob : HO} (I : Inv X pins σ H s) (mu : Mut (H a)) (hs : Heap.SameBut a s.heap h') (he : ∃ q, h'.get? a = some q) (new : ObjOk X.prog X.w (upd H a ob) h' a ob) :
    Inv X pins σ (upd H a ob) { s with heap := h', toks := t' } :=
  I.write (x := a) (e := a) mu (.inl rfl) (fun b q hb z => (hs.2 b hb).trans z) he new
theorem dk_new {P : Program} {w : World} {H' : Hp} {h' : Heap} {kvs : List (Key × V)} {vs : List (Key × Value)} (z : kvs.length ≤ sizeLine) (hd : (a == sysModules) = false) (rel : KV kvs vs) (dd : h'.DictOf (mixKind P w) a vs) :
    ObjOk P w H' h' a (.dK kvs) := ⟨z, hd, vs, rel, dd⟩
/-- d[y] = v -/
theorem d_setItem {H' : Hp} {Q : Unit → Shared → Prop} (hu : A.units + 1 < cLine) (I : Inv X pins σ H s) (g : DPut H a y v H') (ry : RelV y u) (rv : RelV v r) (h : ∀ s', Inv X pins σ H' s' → Q () s') :
    wpAny (model X.prog X.w) A (setItem (.ref a) u r) Q E s := by
  rcases g with ⟨kvs, k, e, ey, l, eH⟩ | ⟨kvs, k, b, e, ey, eb, l, eH⟩
  · subst ey eH
    obtain ⟨z, hd, vs, rel, dd⟩ := dk_of I.hok e
    have hz : vs.length ≤ sizeLine := by rw [← rel.length]; exact z
    have hl : (putK kvs k v).length ≤ sizeLine := by have := length_putK kvs k v; omega
    refine wpAny_setItem_pairs (hsz := hz) (kV_is ry) dd fun h' dd' hs => h _ ?_
    have he : ∃ q, h'.get? a = some q := let ⟨q, _, _, hq, _⟩ := dd'; ⟨q, hq⟩
    exact d_write I (by rw [e]; exact True.intro) hs he (dk_new hl hd (rel.put k rv) dd')
  · subst ey eH
    cases (show u = Value.ref b from ry)
    obtain ⟨z, hd, xs, rel, dd⟩ := dt_of I.hok e
    have hz : xs.length ≤ sizeLine := by rw [← Paired.length rel]; exact z
    have hl : (putK kvs k v).length ≤ sizeLine := by have := length_putK kvs k v; omega
    refine wpAny_setItem_heap (hsz := hz) (tupleKind_room_in1 hu) (key_of I.hok eb) dd fun h' dd' hs => h _ ?_
    obtain ⟨q, es, ep, hq, h2, h3, h4, _, h5⟩ := dd'
    refine d_write I (by rw [e]; exact True.intro) hs ⟨q, hq⟩ ⟨hl, hd, _, (rel.put k eb rv).keeps fun c ys ec => ?_, q, es, ep, hq, h2, h3, h4, h5⟩
    rw [upd_ne (ne_of ec e (fun z => nomatch z))]
    exact ec
end

section
variable {X : Cx} {pins : List (Addr × Obj)} {σ : St} {H : Hp} {s : Shared} {a : Addr} {kvs : List (Key × V)} {k : Key} {u : Value} {A : Around} {E : Value → Shared → Prop}
end


/-! ### readings and rules -/
/-- the element of a subscription, not a slice -/
def NoSl (i : Expr) : Prop := ∀ ov iv, subscripted i false ov iv = operate [ov, iv] (getItem ov iv)
theorem subD_of {prog : Program} {w : World} {A : Around} {E : Value → Shared → Prop} {s : Shared} {env : Env} {value slice : Expr} {pos : Pos} {T id : String} {Q : Value → Shared → Prop}
    (hl : typeLookup (.type T) "__getitem__" = pure (some (.builtin id))) (hs : NoSl slice)
    (h : wpAny (model prog w) A (eval value env) (fun o s₁ => wpAny (model prog w) A (eval slice env) (fun i s₂ => s₂.TypeIs o T ∧ wpAny (model prog w) A (getItem o i) Q E s₂) E s₁) E s) :
    wpAny (model prog w) A (eval (.Subscript value slice pos) env) Q E s := by
  refine Subscript_ (wpAny_mono h (fun o s₁ h₁ => wpAny_mono h₁ (fun i s₂ h₂ => ?_) fun _ _ x => x) fun _ _ x => x)
  obtain ⟨hT, h₂⟩ := h₂
  unfold subscriptTail
  refine wpAny_bind ?_
  rw [getitemInPython_of_ne hT.not_modules]
  refine wpAny_bind (wpAny_specialOf hT hl ?_)
  have fin : wpAny (model prog w) A (subscripted slice false o i) (fun r s₃ => wpAny (model prog w) A (letTemporaryGo value o r >>= fun _ => pure r) Q E s₃) E s₂ := by
    rw [hs o i]
    exact wpAny_operating (wpAny_mono h₂ (fun r s₃ h₃ => wpAny_bind (wpAny_letTemporaryGo (wpAny_pure h₃))) fun _ _ x => x)
  first
    | exact wpAny_pure (wpAny_bind fin)
    | exact wpAny_bind (wpAny_pure (wpAny_bind fin))
    | exact wpAny_bind fin

theorem dict_typeIs {X : Cx} {pins : List (Addr × Obj)} {σ : St} {H : Hp} {s : Shared} {a : Addr} {y : V} {o : Option V} (I : Inv X pins σ H s) (g : DGet H a y o) : s.TypeIs (.ref a) "dict" := by
  rcases g with ⟨kvs, k, e, _, _⟩ | ⟨kvs, k, b, e, _, _, _⟩
  · obtain ⟨_, _, vs, _, dd⟩ := dk_rd I.hok e
    exact dd.typeIs
  · obtain ⟨_, _, xs, _, dd⟩ := dt_rd I.hok e
    exact dd.typeIs
/-- d[y] -/
def tDGet (td ty : TE) : TE := fun σ H Q => td σ H fun x H1 => ty σ H1 fun y H2 => ∃ a v, x = .ref a ∧ DGet H2 a y (some v) ∧ Q v H2
/-- y in d, y not in d -/
def tDIn (ty td : TE) : TE := fun σ H Q => ty σ H fun y H1 => td σ H1 fun x H2 => ∃ a o, x = .ref a ∧ DGet H2 a y o ∧ Q (.bl o.isSome) H2
def tDNotIn (ty td : TE) : TE := fun σ H Q => ty σ H fun y H1 => td σ H1 fun x H2 => ∃ a o, x = .ref a ∧ DGet H2 a y o ∧ Q (.bl (!o.isSome)) H2
/-- d[y] = v -/
def sDPut (td ty tv : TE) : TS := fun D σ H => tv σ H fun v H1 => td σ H1 fun x H2 => ty σ H2 fun y H3 => ∃ a H4, x = .ref a ∧ DPut H3 a y v H4 ∧ D.nx σ H4
/-- d[y] op= v -/
def sDAug (td ty tv : TE) (rd : V → V → Hp → VK → Prop) : TS := fun D σ H => td σ H fun x H1 => ty σ H1 fun y H2 => ∃ a v, x = .ref a ∧ DGet H2 a y (some v) ∧
  tv σ H2 fun y2 H3 => rd v y2 H3 fun z H4 => ∃ H5, DPut H4 a y z H5 ∧ D.nx σ H5
/-- del d[y] -/
def sDDel (td ty : TE) : TS := fun D σ H => td σ H fun x H1 => ty σ H1 fun y H2 => ∃ a kvs k, x = .ref a ∧ H2 a = some (.dK kvs) ∧ y = kV k ∧ (valV kvs k).isSome = true ∧ D.nx σ (upd H2 a (.dK (dropK kvs k)))

section
variable {X : Cx} {o i e value : Expr} {pos pos' tpos : Pos} {td ty tv : TE}
theorem pe_dget (hu : X.A.units + 1 < cLine) (ho : PE X o td) (hi : PE X i ty) (hs : NoSl i) : PE X (.Subscript o i pos) (tDGet td ty) := by
  intro pins s σ H Q I h
  refine subD_of PySem.F.slot_dict_getitem.lookup hs (thn (ho pins s σ H _ I h) fun u s1 ⟨x, H1, I1, rx, q1⟩ => thn (hi pins s1 σ H1 _ I1 q1) fun iv s2 ⟨y, H2, I2, ry, a, v, ex, g, q2⟩ => ?_)
  subst ex
  obtain rfl : u = Value.ref a := rx
  exact ⟨dict_typeIs I2 g, d_getItem hu I2 g ry fun w' s3 I3 rw' => ⟨v, H2, I3, rw', q2⟩⟩
theorem pc_dnotin (hu : X.A.units + 1 < cLine) (hi : PE X i ty) (ho : PE X o td) : PC X .NotIn i o (tDNotIn ty td) := by
  intro pins s σ H Q I h
  refine thn (hi pins s σ H _ I h) fun iv s1 ⟨y, H1, I1, ry, q1⟩ => thn (ho pins s1 σ H1 _ I1 q1) fun u s2 ⟨x, H2, I2, rx, a, ov, ex, g, q2⟩ => ?_
  subst ex
  obtain rfl : u = Value.ref a := rx
  exact d_notIn hu I2 g ry fun s3 I3 => ⟨.bl (!ov.isSome), H2, I3, rfl, q2⟩
theorem ps_dput (hu : X.A.units + 1 < cLine) (ho : PE X o td) (hi : PE X i ty) (hv : PE X value tv) (hs : swapsWith value (some (.Subscript o i pos')) pos.line X.env = pure false) :
    PS X (.Assign [.Subscript o i pos'] value pos) (sDPut td ty tv) := by
  intro pins s σ H D I h
  refine wpAny_Assign_Subscript (thn (hv pins s σ H _ I h) fun r s1 ⟨v, H1, I1, rv, q1⟩ => thn (ho pins s1 σ H1 _ I1 q1) fun u s2 ⟨x, H2, I2, rx, q2⟩ => thn (hi pins s2 σ H2 _ I2 q2) fun iv s3 ⟨y, H3, I3, ry, a, H4, ex, g, q3⟩ => ?_) hs
  subst ex
  obtain rfl : u = Value.ref a := rx
  exact d_setItem hu I3 g ry rv fun s4 I4 => ⟨σ, H4, I4, q3⟩
theorem ps_daug {op : Operator} {rd : V → V → Hp → VK → Prop} (hu : X.A.units + 1 < cLine) (ho : PE X o td) (hi : PE X i ty) (hv : PE X value tv) (hop : InOp X op rd)
    (ha : ∀ ov iv new, augStore i ov iv new = (do holding [new, ov, iv] (setItem ov iv new); release [new, ov, iv] []; pure .next)) : PS X (.AugAssign (.Subscript o i tpos) op value pos) (sDAug td ty tv rd) := by
  intro pins s σ H D I h
  refine wpAny_AugAssign_SubscriptAny (thn (ho pins s σ H _ I h) fun u s1 ⟨x, H1, I1, rx, q1⟩ => thn (hi pins s1 σ H1 _ I1 q1) fun iv s2 ⟨y, H2, I2, ry, a, v, ex, g, q2⟩ => ?_) ha
  subst ex
  obtain rfl : u = Value.ref a := rx
  refine d_getItem hu I2 g ry fun w' s3 I3 rw' => thn (hv pins s3 σ H2 _ I3 q2) fun w2 s4 ⟨y2, H3, I4, ry2, q3⟩ => thn (hop pins s4 σ H3 v y2 w' w2 _ I4 rw' ry2 q3) fun w3 s5 ⟨z, H4, I5, rz, H5, g5, q4⟩ => ?_
  exact d_setItem hu I5 g5 ry rz fun s6 I6 => ⟨σ, H5, I6, q4⟩
end


/-! ### displays -/
theorem dk_empty {P : Program} {w : World} {H : Hp} (h : Heap) (hb : sysModules < h.objs.size) : ObjOk P w H (h.push { cls := .type "dict", data := .dict #[] }) h.objs.size (.dK []) :=
  ⟨Nat.zero_le _, beq_eq_false_iff_ne.mpr (Ne.symm (Nat.ne_of_lt hb)), [], .nil, Heap.DictOf.new h⟩
/-- {}, to be a dict of the kind that is wanted -/
def tDNewK : TE := fun _ H Q => ∀ p, H p = none → Q (.ref p) (upd H p (.dK []))
def tDNewT : TE := fun _ H Q => ∀ p, H p = none → Q (.ref p) (upd H p (.dT []))
section
variable {X : Cx} {pos : Pos}
theorem pe_dnewK : PE X (.Dict [] [] pos) tDNewK := fun pins s σ H Q I h =>
  wpAny_Dict_empty ⟨.ref s.heap.objs.size, _, I.laid (a := s.heap.objs.size) (o := .dK []) (t' := s.toks) (fun _ _ q => Heap.get?_push_of_some _ q) (Nat.le_refl _) (dk_empty s.heap I.big), rfl, h _ (I.hok.fresh (Nat.le_refl _))⟩
end

/-- the pairs of a display, from the left -/
def tPairs : List (TE × TE) → St → Hp → (List (V × V) → Hp → Prop) → Prop
  | [], _, H, Q => Q [] H
  | (tk, tv) :: r, σ, H, Q => tk σ H fun x H1 => tv σ H1 fun y H2 => tPairs r σ H2 fun ps H3 => Q ((x, y) :: ps) H3
abbrev VV : List (V × V) → List (Value × Value) → Prop := Paired fun p q => RelV p.1 q.1 ∧ RelV p.2 q.2
def PPs (X : Cx) (pos : Pos) (keys : List (Option Expr)) (values : List Expr) (trs : List (TE × TE)) : Prop :=
  ∀ (pins : List (Addr × Obj)) (s : Shared) (σ : St) (H : Hp) (Q : List (V × V) → Hp → Prop), Inv X pins σ H s → tPairs trs σ H Q →
    wpAny (model X.prog X.w) X.A (evalPairs (pairTrees keys values X.env pos)) (fun vs s' => ∃ ps H', Inv X pins σ H' s' ∧ VV ps vs ∧ Q ps H') X.xe s
def mergeK (kvs more : List (Key × V)) : List (Key × V) := more.foldl (fun acc kv => putK acc kv.1 kv.2) kvs
/-- {k: v, ..} with keys ints and texts; the new dict stands empty while the pairs are made -/
def tDisp (trs : List (TE × TE)) : TE := fun σ H Q => ∀ p, H p = none → tPairs trs σ (upd H p (.dK [])) fun ps H2 => H2 p = some (.dK []) ∧ ∃ kvs : List (Key × V), ps = kvs.map (fun kv => (kV kv.1, kv.2)) ∧ kvs.length ≤ 15 ∧ Q (.ref p) (upd H2 p (.dK (mergeK [] kvs)))
/-! ### methods -/
/-- a method call o.m(e) of a built-in, with one argument: what must be seen of the text -/
structure M1 (X : Cx) (o : Expr) (m : Str) (apos : Pos) (e : Expr) (cpos : Pos) : Prop where
  base : attributeBase o m X.env (eval o X.env) = eval o X.env
  few : ((backTo cpos (starEach [e] X.env)).all (fun x => !x.1) && (backToKw cpos (keywordEach [] X.env)).all (fun x => x.1.isSome)
    && decide (([e] : List Expr).length + ([] : List Keyword).length + (if ([] : List Keyword).isEmpty then 0 else 1) < 30)) = true
  line : (apos.endLine == cpos.line) = true
  trees : backTo cpos (starEach [e] X.env) = [(false, eval e X.env)]
structure M2 (X : Cx) (o : Expr) (m : Str) (apos : Pos) (e f : Expr) (cpos : Pos) : Prop where
  base : attributeBase o m X.env (eval o X.env) = eval o X.env
  few : ((backTo cpos (starEach [e, f] X.env)).all (fun x => !x.1) && (backToKw cpos (keywordEach [] X.env)).all (fun x => x.1.isSome)
    && decide (([e, f] : List Expr).length + ([] : List Keyword).length + (if ([] : List Keyword).isEmpty then 0 else 1) < 30)) = true
  line : (apos.endLine == cpos.line) = true
  trees : backTo cpos (starEach [e, f] X.env) = [(false, eval e X.env), (false, eval f X.env)]

/-- a is a dict, whatever its keys -/
def IsD (H : Hp) (a : Addr) : Prop := (∃ kvs, Rd H a (.dK kvs)) ∨ ∃ kvs, Rd H a (.dT kvs)
section
variable {X : Cx} {pins : List (Addr × Obj)} {σ : St} {H : Hp} {s : Shared} {a : Addr} {y d : V} {u r : Value} {o : Option V} {A : Around} {E : Value → Shared → Prop}
end

def tDGet1 (td ty : TE) : TE := fun σ H Q => td σ H fun x H1 => ∃ a, x = .ref a ∧ IsD H1 a ∧ ty σ H1 fun y H2 => ∃ o, DGet H2 a y o ∧ Q (o.getD .non) H2
def tDGet2 (td ty tx : TE) : TE := fun σ H Q => td σ H fun x H1 => ∃ a, x = .ref a ∧ IsD H1 a ∧ ty σ H1 fun y H2 => tx σ H2 fun z H3 => ∃ o, DGet H3 a y o ∧ Q (o.getD z) H3
/-- d.pop(k): there; d.pop(k, x): there or not -/
def tDPop1 (td ty : TE) : TE := fun σ H Q => td σ H fun x H1 => ∃ a, x = .ref a ∧ IsD H1 a ∧ ty σ H1 fun y H2 => ∃ kvs k v, H2 a = some (.dK kvs) ∧ y = kV k ∧ valV kvs k = some v ∧ Q v (upd H2 a (.dK (dropK kvs k)))
def tDPop2 (td ty tx : TE) : TE := fun σ H Q => td σ H fun x H1 => ∃ a, x = .ref a ∧ IsD H1 a ∧ ty σ H1 fun y H2 => tx σ H2 fun z H3 => ∃ kvs k, H3 a = some (.dK kvs) ∧ y = kV k ∧
  (∀ v, valV kvs k = some v → Q v (upd H3 a (.dK (dropK kvs k)))) ∧ (valV kvs k = none → Q z H3)
section
variable {X : Cx} {o e f : Expr} {apos cpos : Pos} {td ty tx : TE}
end

/-! ### dict(d): a copy -/
section
variable {X : Cx} {pins : List (Addr × Obj)} {σ : St} {H : Hp} {s : Shared} {a : Addr} {kvs : List (Key × V)} {A : Around} {E : Value → Shared → Prop}
end


section
variable {X : Cx} {pins : List (Addr × Obj)} {σ : St} {H : Hp} {s : Shared} {a : Addr} {y : V} {u : Value} {A : Around} {E : Value → Shared → Prop}
end
end L2

namespace L2
open PySem PySem.Spec PyProof.Rows
/-! ### sorted -/
theorem strsAre_of {ss : List Str} : ∀ {us : List Value}, Vals (ss.map V.str) us → StrsAre us ss := by
  induction ss with
  | nil => intro us r; rw [List.map_nil] at r; cases r; exact .nil
  | cons n ns ih =>
    intro us r
    rw [List.map_cons] at r
    cases r with
    | cons r1 r2 =>
      obtain ⟨t, rfl⟩ := r1
      exact .cons _ _ (ih r2)
theorem vals_of_strs : ∀ {us : List Value} {ss : List Str}, StrsAre us ss → Vals (ss.map V.str) us
  | _, _, .nil => .nil
  | _, _, .cons _ _ h => .cons ⟨_, rfl⟩ (vals_of_strs h)
theorem vals_of_ints : ∀ {us : List Value} {ns : List Int}, IntsAre us ns → Vals (ns.map V.int) us
  | _, _, .nil => .nil
  | _, _, .cons _ _ h => .cons ⟨_, rfl⟩ (vals_of_ints h)
theorem lst_ok {P : Program} {w : World} {H : Hp} {h : Heap} {a : Addr} {xs : List V} {its : List Value} {e : Nat} (hv : Vals xs its) (hz : xs.length ≤ sizeLine) (ho : h.get? a = some (seqObj "list" its.toArray e)) : ObjOk P w H h a (.lst xs) := ⟨hz, its, e, hv, ho⟩
section
variable {X : Cx}
def rSortS (K : PySem.W.Frag) : List V → Hp → VK → Prop := fun xs H Q => ∃ a, ∃ ss : List Str, xs = [.ref a] ∧ SqL K H a (ss.map V.str) ∧ ss.length < 64 ∧ ∀ (p : Addr) (ss' : List Str), ss'.Perm ss → sortedS ss' = true → H p = none → Q (.ref p) (upd H p (.lst (ss'.map V.str)))
theorem call_sortS : CallR X (.builtin "sorted") (rSortS X.K) := by
  intro pins s σ H xs us Q I r h
  obtain ⟨a, ss, rfl, hq, h64, q⟩ := h
  obtain ⟨u, rfl, rx⟩ := vals1 r
  cases rx
  obtain ⟨its, r', pl, hz⟩ := I.list hq
  have hl := r'.length
  rw [List.length_map] at hl
  refine sorted_strs (pl.isList) (strsAre_of r') (by omega) fun out ss' a1 a2 a3 => ?_
  obtain ⟨e, he⟩ := sortedAll_at s.heap its out
  refine ⟨.ref (s.heap.objs.size + 1), _, I.laid (a := s.heap.objs.size + 1) (o := .lst (ss'.map V.str)) (t' := s.toks) (fun _ _ => sortedAll_old) (Nat.le_succ _) (lst_ok (its := out.toList) (e := e) (vals_of_strs a1) ?_ (by rw [Array.toArray_toList]; exact he)), rfl, q _ ss' a2 a3 (I.hok.fresh (Nat.le_succ _))⟩
  rw [List.length_map, a2.length_eq]
  exact sz1000 (by omega)
def rSortI (K : PySem.W.Frag) : List V → Hp → VK → Prop := fun xs H Q => ∃ a, ∃ ns : List Int, xs = [.ref a] ∧ SqL K H a (ns.map V.int) ∧ ns.length < 64 ∧ ∀ (p : Addr) (ns' : List Int), ns'.Perm ns → ns'.Pairwise (· ≤ ·) → H p = none → Q (.ref p) (upd H p (.lst (ns'.map V.int)))
theorem keys_ints {P : Program} {w : World} : ∀ {ns : List Int} {vs : List (Key × Value)} {acc : List Value}, vs.map (·.1) = ns.map Sum.inl → acc.length = vs.length → (∀ (j : Nat) (v : Value), acc[j]? = some v → ∃ k x, vs[j]? = some (k, x) ∧ (mixKind P w).is k v = true) → IntsAre acc ns
  | [], [], [], _, _, _ => .nil
  | [], _ :: _, _, e, _, _ => by simp at e
  | _ :: _, [], _, e, _, _ => by simp at e
  | [], [], _ :: _, _, l, _ => by simp at l
  | _ :: _, _ :: _, [], _, l, _ => by simp at l
  | x :: ss, (k, y) :: vs, v :: acc, e, l, h => by
    simp only [List.map_cons, List.cons.injEq] at e
    obtain ⟨e1, e2⟩ := e
    obtain ⟨k', x', h1, h2⟩ := h 0 v rfl
    simp at h1
    obtain ⟨rfl, rfl⟩ := h1
    subst e1
    obtain ⟨t, rfl⟩ := Value.isInt_shape (k := x) (v := v) h2
    exact .cons _ _ (keys_ints e2 (by simpa using l) fun j v hv => h (j + 1) v (by simpa using hv))
/-- sorted of a dict: its keys are collected, then sorted in their place -/
theorem sorted_dict {Q : Value → Shared → Prop} {A : Around} {E : Value → Shared → Prop} {pins : List (Addr × Obj)} {σ : St} {H : Hp} {s : Shared} {a : Addr} {kvs : List (Key × V)} (hh : A.handled = none) (I : Inv X pins σ H s) (hH : H a = some (.dK kvs))
    (h : ∀ (h' : Heap) (tk : Nat) (acc : List Value) (vs : List (Key × Value)), KV kvs vs → acc.length = vs.length → (∀ (j : Nat) (v : Value), acc[j]? = some v → ∃ k x, vs[j]? = some (k, x) ∧ (mixKind X.prog X.w).is k v = true) → (∀ b o, s.heap.get? b = some o → h'.get? b = some o) →
      wpAny (model X.prog X.w) A.in1 (call (.builtin "list.sort") [.ref h'.objs.size]) (fun _ s' => Q (.ref h'.objs.size) s') E { s with heap := h'.push (seqObj "list" acc.toArray 0), toks := tk }) :
    wpAny (model X.prog X.w) A (call (.builtin "sorted") [.ref a]) Q E s := by
  obtain ⟨z, lo, vs, rel, dd⟩ := dk_of I.hok hH
  obtain ⟨ep, hat⟩ := dd.dictAt
  have hlen := rel.length
  refine Calls.call_function_entry kind_sorted plain_sorted entry_sorted (args_sorted1 _) ?_
  unfold Builtin.«sorted»
  refine wpAny_bind (m := checkCount "sorted" 1 1 _) (wpAny_pure ?_)
  refine wpAny_bind (PySem.W.kdu_collect (A := A.in1) (PySem.W.kdl_dict (knd := mixKind X.prog X.w) (kvs := vs) (ep := ep) lo) hh hat (by rw [← hlen]; exact z) fun h' tk acc hk hacc => ?_)
  have hl : acc.toList.length = vs.length := by rw [Array.length_toList]; exact hacc.1
  refine wpAny_bind (wpAny_newList ?_ (by rw [hl, ← hlen]; exact z))
  have hg := h h' tk acc.toList vs rel hl (fun j v e => hacc.2 j v (by rw [← Array.getElem?_toList]; exact e)) hk
  refine wpAny_bind (wpAny_holding (wpAny_mono hg (fun _ s' x => ?_) fun _ _ e => e))
  exact wpAny_pure ⟨_, rfl, x⟩
def rSortDS : List V → Hp → VK → Prop := fun xs H Q => ∃ a kvs, ∃ ss : List Str, xs = [.ref a] ∧ H a = some (.dK kvs) ∧ kvs.map (·.1) = ss.map Sum.inr ∧ kvs.length < 64 ∧ ∀ (p : Addr) (ss' : List Str), ss'.Perm ss → sortedS ss' = true → H p = none → Q (.ref p) (upd H p (.lst (ss'.map V.str)))
def rSortDI : List V → Hp → VK → Prop := fun xs H Q => ∃ a kvs, ∃ ns : List Int, xs = [.ref a] ∧ H a = some (.dK kvs) ∧ kvs.map (·.1) = ns.map Sum.inl ∧ kvs.length < 64 ∧ ∀ (p : Addr) (ns' : List Int), ns'.Perm ns → ns'.Pairwise (· ≤ ·) → H p = none → Q (.ref p) (upd H p (.lst (ns'.map V.int)))
theorem call_sortDI (hc : X.calm = true) : CallR X (.builtin "sorted") rSortDI := by
  intro pins s σ H xs us Q I r h
  obtain ⟨a, kvs, ns, rfl, hH, hk, h64, q⟩ := h
  obtain ⟨u, rfl, rx⟩ := vals1 r
  cases rx
  refine sorted_dict (I.ok.hd hc) I hH fun h' tk acc vs rel hl hacc keep => ?_
  have hS := keys_ints (ns := ns) (by rw [← rel.keys]; exact hk) hl hacc
  have hlen := rel.length
  have hssl : ns.length = kvs.length := by
    have := congrArg List.length hk
    rw [List.length_map, List.length_map] at this
    exact this.symm
  have hoL : (h'.push (seqObj "list" acc.toArray 0)).get? h'.objs.size = some (seqObj "list" acc.toArray 0) := Heap.get?_push_size _ rfl
  refine wpAny_call_entry slot_list_sort ⟨_, hoL, rfl⟩ entry_list_sort (list_sort_tree hoL hS (by omega) fun out ns' a1 a2 a3 => ⟨_, rfl, ?_⟩) (args_list_sort _)
  obtain ⟨e, he⟩ : ∃ e, (sortedHeap (h'.push (seqObj "list" acc.toArray 0)) h'.objs.size acc out).get? h'.objs.size = some (seqObj "list" out e) := sortedHeap_at hoL
  have I1 := I.kept (t' := tk) keep
  refine ⟨.ref h'.objs.size, _, I1.laid (a := h'.objs.size) (o := .lst (ns'.map V.int)) (t' := tk) (fun b o hb' => ?_) (Nat.le_refl _) (lst_ok (its := out.toList) (e := e) (vals_of_ints a1) ?_ (by rw [Array.toArray_toList]; exact he)), rfl, q _ ns' a2 a3 (I1.hok.fresh (Nat.le_refl _))⟩
  · have lt := Heap.lt_size hb'
    rw [sortedHeap_old (Nat.ne_of_lt lt) (by rw [Heap.size_push]; exact Nat.lt_succ_of_lt lt)]
    exact Heap.get?_push_of_some _ hb'
  · rw [List.length_map, a2.length_eq]
    exact sz1000 (by omega)
end
end L2

namespace L2
open PySem PySem.Spec PyProof.Rows
variable {X : Cx}
theorem Vals.of_get : ∀ {xs : List V} {us : List Value}, xs.length = us.length → (∀ (i : Nat) (x : V) (u : Value), xs[i]? = some x → us[i]? = some u → RelV x u) → Vals xs us
  | [], [], _, _ => .nil
  | x :: xs, u :: us, hl, h => .cons (h 0 x u rfl rfl) (Vals.of_get (by simpa using hl) fun i y v hy hv => h (i + 1) y v (by simpa using hy) (by simpa using hv))
  | [], _ :: _, hl, _ => by simp at hl
  | _ :: _, [], hl, _ => by simp at hl
/-! ### xs[::-1] of a list -/
def tRev (K : PySem.W.Frag) (te : TE) (tk : TO) : TE := fun σ H Q => te σ H fun x H1 => tk σ H1 fun st H2 => st = some (-1) ∧ ∃ a xs, x = .ref a ∧ SqL K H2 a xs ∧ ∀ p, H2 p = none → Q (.ref p) (upd H2 p (.lst xs.reverse))
theorem Vals.rev {xs : List V} {us : List Value} (r : Vals xs us) : Vals xs.reverse us.reverse := by
  induction r with
  | nil => exact .nil
  | cons h _ ih =>
    rw [List.reverse_cons, List.reverse_cons]
    exact ih.append (.cons h .nil)
theorem pe_rev {e ek : Expr} {te : TE} {tk : TO} {p2 pos : Pos} (he : PE X e te) (hk : PO X (some ek) tk) : PE X (.Subscript e (.Slice none none (some ek) p2) pos) (tRev X.K te tk) := by
  intro pins s σ H Q I h
  refine Subscript_ (thn (he pins s σ H _ I h) fun v s1 ⟨x, H1, I1, r1, q1⟩ => ?_)
  refine wpAny_Slice ?_
  rw [evalPart_none]
  refine wpAny_pure (wpAny_pure (thn (hk pins s1 σ H1 _ I1 q1) fun vk s3 ⟨st, H3, I3, pk, est, a, xs, ex, hx, q⟩ => ?_))
  subst est ex
  cases r1
  have I4 : Inv X pins σ H3 { s3 with heap := s3.heap.push { cls := .type "slice", data := .fields #[.none, .none, vk] } } := I3.kept (t' := s3.toks) fun b ob q => Heap.get?_push_of_some _ q
  obtain ⟨its, r, ht, hz⟩ := I4.list hx
  have hlen := r.length
  show wpAny (model X.prog X.w) X.A (subscriptTail e (.Slice none none (some ek) p2) (.ref a) (.ref s3.heap.objs.size)) (EP X pins σ Q) X.xe { s3 with heap := s3.heap.push { cls := .type "slice", data := .fields #[.none, .none, vk] } }
  refine tail_any (ops := [.ref a, .ref s3.heap.objs.size]) ht.isList.typeIs slot_list_getitem.lookup ?_ (by with_unfolding_all rfl)
  refine wpAny_getItem_list_slice ht.isList (Heap.IsSliceOf.new ..) .none .none pk (by decide) ?_ (by rw [List.size_toArray] <;> omega)
  rw [PySem.W.krv_pick]
  refine ⟨.ref _, _, I4.laid (t' := s3.toks) (o := .lst xs.reverse) (fun b ob q => Heap.get?_push_of_some _ q) (Nat.le_refl _) ?_, rfl, q _ (I4.hok.fresh (Nat.le_refl _))⟩
  exact ⟨by rw [List.length_reverse]; exact hz, _, 0, r.rev, Heap.get?_push_size _ rfl⟩
/-! ### list(range(a, b)) -/
def tListRng (ta : TA) : TE := fun σ H Q => ta σ H fun vs H1 => ∃ i j : Int, vs = [.int i, .int j] ∧ (-(2 ^ 62) ≤ i ∧ i < 2 ^ 62 ∧ -(2 ^ 62) ≤ j ∧ j < 2 ^ 62) ∧ (j - i).toNat ≤ 1000 ∧ ∀ p, H1 p = none → Q (.ref p) (upd H1 p (.lst (rngV i (j - i).toNat)))
theorem rng_vals {a : Int} {n : Nat} {acc : Array Value} (h : ItemsOf (fun i v => ∃ t, v = .int (a + i * 1) t) acc n) : Vals (rngV a n) acc.toList := by
  refine Vals.of_get (by rw [rngV_len, Array.length_toList, h.1]) fun i x u hx hu => ?_
  obtain ⟨_, rfl⟩ := rngV_get hx
  obtain ⟨t, rfl⟩ := h.2 i u (by rw [← Array.getElem?_toList]; exact hu)
  exact ⟨t, by rw [Int.mul_one]⟩
theorem pe_listRng {e1 e2 : Expr} {ta : TA} {p p' pos pos' : Pos} (hc : X.calm = true) (hg : Gl X "list") (hm : X.mg "list" = none) (hg' : Gl X "range") (hm' : X.mg "range" = none) (ha : PA X [e1, e2] ta)
    (hs : starEach [e1, e2] X.env = [(false, eval e1 X.env), (false, eval e2 X.env)] := by rfl) (hs2 : starEach [e2] X.env = [(false, eval e2 X.env)] := by rfl)
    (hs3 : starEach [Expr.Call (.Name "range" p') [e1, e2] [] pos'] X.env = [(false, eval (.Call (.Name "range" p') [e1, e2] [] pos') X.env)] := by rfl) :
    PE X (.Call (.Name "list" p) [.Call (.Name "range" p') [e1, e2] [] pos'] [] pos) (tListRng ta) := by
  intro pins s σ H Q I h
  refine wpAny_Call_Name_kw (ld_blt I hg hm bt_list (PyProof.Rows.callWith_type1 ?_ hs3 rfl))
  rw [hs3]
  show wpAny _ _ (spliced ((false, eval (.Call (.Name "range" p') [e1, e2] [] pos') X.env) :: backTo pos [])) _ _ s
  refine Calls.spliced_cons ?_
  refine Call_ (ld_blt I hg' hm' boot_range (PyProof.Rows.callWith_type1 (thn (ha pos' pins s σ H _ I h) fun us s1 ⟨vs, H1, I1, r1, q1⟩ => ?_) (by rw [hs, hs2]) (by rw [hs2]; rfl)))
  obtain ⟨i, j, e, ⟨q1, q2, q3, q4⟩, hn, q⟩ := q1
  subst e
  cases r1 with
  | cons r rr =>
    cases rr with
    | cons r' rr =>
      cases rr
      obtain ⟨t, rfl⟩ := r
      obtain ⟨t', rfl⟩ := r'
      refine call_range_2 (Calls.spliced_nil ?_)
      have I2 : Inv X pins σ H1 { s1 with heap := s1.heap.push { cls := .type "range", data := .fields #[.int i t, .int j t', .int 1 s1.toks] }, toks := s1.toks + 1 } := I1.kept fun b o e => Heap.get?_push_of_some _ e
      refine call_list_range (n := (j - i).toNat) (I2.ok.hd hc) (IsRange.new ..) (small_one q1 q2 q3 q4) (by rw [rangeSize_one]; split <;> omega) (by omega) fun h' tk acc' c' hk hS' hacc => ?_
      refine ⟨.ref _, _, I2.laid (o := .lst (rngV i (j - i).toNat)) hk (Nat.le_refl _) ?_, rfl, q _ (I2.hok.fresh (Nat.le_refl _))⟩
      exact ⟨by rw [rngV_len]; exact sz1000 hn, acc'.toList, c', rng_vals hacc, hS'⟩
/-! ### list(d.values()) -/
def tListVals (td : TE) : TE := fun σ H Q => td σ H fun x H1 => ∃ a kvs, x = .ref a ∧ H1 a = some (.dK kvs) ∧ ∀ p, H1 p = none → Q (.ref p) (upd H1 p (.lst (kvs.map (·.2))))
end L2

namespace L2
open PySem PySem.Spec PyProof.Rows
/-! ### for i, x in enumerate(xs), xs a list -/
/-- the i-th item of a list and i, in a new tuple -/
def Ite (K : PySem.W.Frag) (b : Addr) : It :=
  ⟨fun i H => ∃ ys, SqL K H b ys ∧ i < ys.length,
   fun i H v H' => ∃ T, H T = none ∧ v = .ref T ∧ ∀ ys, SqL K H b ys → ∃ y, ys[i]? = some y ∧ H' = upd H T (.tup [.int i, y]),
   fun i H => ∃ ys, SqL K H b ys ∧ i = ys.length⟩
/-- an enumerate's objects, laid one behind another from n on -/
def EnuSt (n b : Nat) (i : Nat) (h : Heap) : Prop := (∃ old, IsEnum h (n + 1) n (i : Int) old) ∧ h.IsListIter n b i
theorem turn_enum {P : Program} {w : World} {K : PySem.W.Frag} {es : List Expr} {k1 : Nat} {p1 : Pos} {n b : Nat} (hb : b < n) : Turn P w K (.Tuple es k1 p1) (Ite K b) [n + 1, n] (n + 1) (EnuSt n b) where
  mem := by simp
  obj := fun i h st c hc => by
    obtain ⟨⟨old, c1⟩, ⟨o5, d5, _, f5⟩⟩ := st
    have hc' : c = n + 1 ∨ c = n := by simpa using hc
    rcases hc' with e | e
    · subst e; exact ⟨_, c1, fun v z => by cases z⟩
    · subst e; exact ⟨_, d5, fun v z => by rw [f5] at z; cases z⟩
  keep := fun i h h' st k => by
    obtain ⟨⟨old, c1⟩, c5⟩ := st
    exact ⟨⟨old, k _ (by simp) _ c1⟩, c5.at fun o e => k _ (by simp) o e⟩
  item := by
    intro X hP hw hK hc i pins s σ H E I hf st hg
    subst hP hw hK
    obtain ⟨ys, hy, l2⟩ := hg
    obtain ⟨its', r2, ty, _⟩ := I.list hy
    have e2 := r2.length
    obtain ⟨⟨old, c1⟩, c5⟩ := st
    obtain ⟨vy, hvy⟩ : ∃ v, ys[i]? = some v := ⟨_, List.getElem?_eq_getElem l2⟩
    obtain ⟨uy, huy, ry⟩ := r2.get hvy
    refine wpAny_pyNext_enum_item (x := uy) c1 c5 (isList_of ty) (by rw [← Array.getElem?_toList, List.toList_toArray]; exact huy) (by show (_ : Nat) ≠ _; omega) fun g cz s2 cT sz kp => ⟨.ref s.heap.objs.size, rfl, ?_⟩
    refine wpAny_letOwnedTupleGo_enum (s := { s with heap := g, toks := s.toks + 1 }) cz fun g' cz' sb => ?_
    have hfr : H s.heap.objs.size = none := I.hok.fresh (Nat.le_refl _)
    have I0 : Inv X pins σ (upd H s.heap.objs.size (.tup [.int i, vy])) { s with heap := s.heap.push { cls := .type "tuple", data := .seq #[.int i s.toks, uy] }, toks := s.toks + 1 } :=
      I.laid (fun c u q => Heap.get?_push_of_some _ q) (Nat.le_refl _) ⟨by show 2 ≤ sizeLine; decide, [.int i s.toks, uy], .cons ⟨_, rfl⟩ (.cons ry .nil), ⟨_, Heap.get?_push_size s.heap rfl, rfl, _, rfl⟩⟩
    have lz : n + 1 < s.heap.objs.size := Heap.lt_size c1
    have fpn : ∀ c ∈ [n + 1, n], c ≠ s.heap.objs.size := fun c hc' => by
      have hc'' : c = n + 1 ∨ c = n := by simpa using hc'
      rcases hc'' with e | e <;> (subst e; exact Nat.ne_of_lt (by omega))
    have hf0 : ∀ c ∈ [n + 1, n], FpOk X pins (upd H s.heap.objs.size (.tup [.int i, vy])) c := fun c hc' => ⟨by rw [upd_ne (fpn c hc')]; exact (hf c hc').1, (hf c hc').2⟩
    have I1 : Inv X pins σ (upd H s.heap.objs.size (.tup [.int i, vy])) { s with heap := g', toks := s.toks + 1 } := by
      refine Inv.turnedL (s := { s with heap := s.heap.push { cls := .type "tuple", data := .seq #[.int i s.toks, uy] }, toks := s.toks + 1 }) (h' := g') (t' := s.toks + 1) (ch := [n + 1, n]) I0 (fun c o hc' e => ?_) hf0
      replace e : (s.heap.push { cls := .type "tuple", data := .seq #[.int i s.toks, uy] }).get? c = some o := e
      have hn : ∀ d ∈ [n + 1, n], c ≠ d := fun d hd z => hc' (by rw [z]; exact hd)
      refine sb.extBut _ _ (hn _ (by simp)) ?_
      by_cases ec : c = s.heap.objs.size
      · rw [ec] at e ⊢
        rw [Heap.get?_push_size s.heap rfl] at e
        cases e
        exact cT
      · rw [Heap.get?_push_ne _ _ _ ec] at e
        exact kp c o (hn _ (by simp)) (hn _ (by simp)) e
    refine ⟨.ref s.heap.objs.size, _, I1, rfl, ⟨_, hfr, rfl, fun ys' hy' => ⟨vy, by rw [I.list_inj hy' hy]; exact hvy, rfl⟩⟩, ?_, fun c hc' => (hf0 c hc').1⟩
    exact ⟨⟨uy, cz'⟩, s2.extBut sb.extBut (Nat.ne_of_lt (Nat.lt_succ_self n))⟩
  done := by
    intro X hP hw hK hc i pins s σ H E I hf st hg
    subst hP hw hK
    obtain ⟨ys, hy, l⟩ := hg
    obtain ⟨its', r2, ty, _⟩ := I.list hy
    have e2 := r2.length
    obtain ⟨⟨old, c1⟩, c5⟩ := st
    have hh : X.A.handled = none := I.ok.hd hc
    refine wpAny_pyNext_enum_end hh c1 c5 (isList_of ty) (by rw [← Array.getElem?_toList, List.toList_toArray]; exact List.getElem?_eq_none (by omega)) fun g kp => ⟨rfl, I.turnedL (t' := s.toks) (ch := [n + 1, n]) (fun c o hc' e => ?_) hf⟩
    exact kp c o (fun z => hc' (by rw [z]; simp)) e
  self := fun _ _ _ _ _ st h => let ⟨⟨_, c1⟩, _⟩ := st; wpAny_pyIter_enum c1 h
def iEnu (K : PySem.W.Frag) (ta : TA) : TI := fun σ H R => ta σ H fun vs H1 => ∃ b, vs = [.ref b] ∧ (∃ ys, SqL K H1 b ys) ∧ R (Ite K b) H1
theorem bt_enumerate : bootBuiltins "enumerate" = some (.type "enumerate") := by decide +kernel
theorem pi_enum {X : Cx} {es : List Expr} {k1 : Nat} {p1 : Pos} {e1 : Expr} {ta : TA} {p pos : Pos} (hg : Gl X "enumerate") (hm : X.mg "enumerate" = none) (ha : PA X [e1] ta) (hs : starEach [e1] X.env = [(false, eval e1 X.env)] := by rfl) :
    PI X (.Tuple es k1 p1) (.Call (.Name "enumerate" p) [e1] [] pos) (iEnu X.K ta) := by
  intro pins s σ H R I h
  refine Call_ (ld_blt I hg hm bt_enumerate (PyProof.Rows.callWith_type1 (thn (ha pos pins s σ H _ I h) fun us s1 ⟨vs, H1, I1, r1, q1⟩ => ?_) hs rfl))
  obtain ⟨b, rfl, ⟨ys, hy⟩, q⟩ := q1
  cases r1 with
  | cons r rr =>
    cases rr
    cases r
    obtain ⟨its', _, ty, _⟩ := I1.list hy
    have lb : b < s1.heap.objs.size := by obtain ⟨o, e, _⟩ := isList_of ty; exact Heap.lt_size e
    refine call_enumerate_list (isList_of ty) fun g c1 c5 _ kp => wpAny_pyIter_enum c1 ?_
    have I2 : Inv X pins σ H1 { s1 with heap := g } := I1.kept (t' := s1.toks) kp
    refine ⟨s1.heap.objs.size + 1, _, _, _, H1, rfl, I2, turn_enum lb, ⟨⟨_, c1⟩, c5⟩, fun c hc => ?_, q⟩
    refine I1.fpOk ?_ (I1.hok.fresh ?_)
    all_goals
      have hc' : c = s1.heap.objs.size + 1 ∨ c = s1.heap.objs.size := by simpa using hc
      rcases hc' with e | e <;> (subst e; omega)
theorem for_enum {K : PySem.W.Frag} {b : Addr} {ys : List V} {g : TG} {tb : TS} {D : Ends} {σ : St} {H : Hp} (Pv : Nat → St → Hp → Prop) (h0 : Pv 0 σ H) (hl : ∀ i σ H, i ≤ ys.length → Pv i σ H → SqL K H b ys)
    (hs : ∀ i y T σ H, ys[i]? = some y → H T = none → Pv i σ H → g (.ref T) σ (upd H T (.tup [.int (i : Nat), y])) fun σ2 H2 => tb { D with nx := Pv (i + 1), ct := Pv (i + 1), bk := D.nx } σ2 H2) (hd : ∀ σ H, Pv ys.length σ H → D.nx σ H) :
    ∃ W : Nat → Nat → St → Hp → Prop, (∃ m, W 0 m σ H) ∧ ∀ i m σ H, W i m σ H →
      ((Ite K b).stop i H ∧ D.nx σ H) ∨ ((Ite K b).go i H ∧ ∃ N : St → Hp → Prop, (∀ σ' H', N σ' H' → ∃ m', m' < m ∧ W (i + 1) m' σ' H') ∧ ∀ v H', (Ite K b).yld i H v H' → g v σ H' fun σ2 H2 => tb { D with nx := N, ct := N, bk := D.nx } σ2 H2) := by
  refine ⟨fun i m σ H => m = ys.length - i ∧ i ≤ ys.length ∧ Pv i σ H, ⟨ys.length, by simp, Nat.zero_le _, h0⟩, ?_⟩
  rintro i m σ H ⟨rfl, hi, p⟩
  have q2 := hl i σ H hi p
  by_cases hlt : i < ys.length
  · refine .inr ⟨⟨ys, q2, hlt⟩, Pv (i + 1), fun σ' H' p' => ⟨ys.length - (i + 1), by omega, rfl, hlt, p'⟩, fun v H' y => ?_⟩
    obtain ⟨T, hT, rfl, y⟩ := y
    obtain ⟨y', e2, rfl⟩ := y ys q2
    exact hs i y' T σ H e2 hT p
  · have e : i = ys.length := by omega
    subst e
    exact .inl ⟨⟨ys, q2, rfl⟩, hd σ H p⟩
end L2

namespace L2
open PySem PySem.Spec PyProof.Rows
/-- the i-th items of a tuple and of a list, in a new tuple -/
def Itz2 (K : PySem.W.Frag) (a b : Addr) : It :=
  ⟨fun i H => ∃ xs ys, SqT K H a xs ∧ SqT K H b ys ∧ i < xs.length ∧ i < ys.length,
   fun i H v H' => ∃ T, H T = none ∧ v = .ref T ∧ ∀ xs ys, SqT K H a xs → SqT K H b ys → ∃ x y, xs[i]? = some x ∧ ys[i]? = some y ∧ H' = upd H T (.tup [x, y]),
   fun i H => ∃ xs ys, SqT K H a xs ∧ SqT K H b ys ∧ (i = xs.length ∨ (i < xs.length ∧ i = ys.length))⟩
/-- a zip's objects, laid one behind another from n on -/
def ZipSt2 (n a b : Nat) (i : Nat) (h : Heap) : Prop := IsZip h (n + 4) (n + 2) (n + 3) .none ∧ IsPair h (n + 2) (.ref n) (.ref (n + 1)) ∧ (∃ x y, IsPair h (n + 3) x y) ∧ h.IsTupleIter n a i ∧ h.IsTupleIter (n + 1) b i
abbrev yo1 (h : Heap) (a : Addr) : Heap := h.push { cls := .type "tuple_iterator", data := .fields #[.ref a, .int 0 0] }
abbrev yo2 (h : Heap) (a b : Addr) : Heap := (yo1 h a).push { cls := .type "tuple_iterator", data := .fields #[.ref b, .int 0 0] }
abbrev yo3 (h : Heap) (a b : Addr) : Heap := (yo2 h a b).push { cls := .type "tuple", data := .seq #[.ref h.objs.size, .ref (yo1 h a).objs.size] }
abbrev yo4 (h : Heap) (a b : Addr) : Heap := (yo3 h a b).push { cls := .type "tuple", data := .seq #[.none, .none] }
abbrev yo5 (h : Heap) (a b : Addr) : Heap := (yo4 h a b).push { cls := .type "zip", data := .fields #[.none, .bool false, .bool false, .ref (yo2 h a b).objs.size, .ref (yo3 h a b).objs.size] }
def iZip2 (K : PySem.W.Frag) (ta : TA) : TI := fun σ H R => ta σ H fun vs H1 => ∃ a b, vs = [.ref a, .ref b] ∧ (∃ xs, SqT K H1 a xs) ∧ (∃ ys, SqT K H1 b ys) ∧ R (Itz2 K a b) H1
end L2

namespace L2
open PySem PySem.Spec PyProof.Rows
variable {X : Cx}
/-! ### list(d): the keys of a dict, texts -/
def rListD : List V → Hp → VK → Prop := fun xs H Q => ∃ a kvs, ∃ ss : List Str, xs = [.ref a] ∧ H a = some (.dK kvs) ∧ kvs.map (·.1) = ss.map Sum.inr ∧ ∀ p, H p = none → Q (.ref p) (upd H p (.lst (ss.map V.str)))
/-! ### list(range(a, b, c)) -/
def tListRng3 (ta : TA) : TE := fun σ H Q => ta σ H fun vs H1 => ∃ i j c : Int, vs = [.int i, .int j, .int c] ∧ (-(2 ^ 20) ≤ i ∧ i < 2 ^ 20 ∧ -(2 ^ 20) ≤ j ∧ j < 2 ^ 20 ∧ 1 ≤ c ∧ c < 2 ^ 20) ∧ (j - i) / c ≤ 900 ∧
  ∀ p (ms : List Int), (∀ x ∈ ms, i ≤ x ∧ x < j) → (ms.length : Int) ≤ max 0 ((j - i - 1) / c + 1) → H1 p = none → Q (.ref p) (upd H1 p (.lst (ms.map V.int)))
end L2

namespace L2
open PySem PySem.Spec PyProof.Rows
variable {X : Cx}
/-! ### a dict walked: it is held still from then on -/
/-- the keys of a dict that is held still -/
def Itd (d : Addr) (ob : Obj) (kvs : List (Key × V)) : It :=
  ⟨fun i H => H d = some (.frz ob (.dK kvs)) ∧ i < kvs.length, fun i H v H' => H' = H ∧ ∃ kv, kvs[i]? = some kv ∧ v = kV kv.1, fun i H => H d = some (.frz ob (.dK kvs)) ∧ kvs.length ≤ i⟩
def iDict (tl : TE) : TI := fun σ H R => tl σ H fun x H1 => ∃ d kvs, x = .ref d ∧ H1 d = some (.dK kvs) ∧ ∀ ob, R (Itd d ob kvs) (upd H1 d (.frz ob (.dK kvs)))
end L2

/-! ### a dict that was walked may change again; dict.update; min(one int, default=None) -/
namespace L2
open PySem PySem.Spec PyProof.Rows
def tThaw (H₀ : Hp) (te : TE) : TE := fun σ H Q => te σ H fun v H' => ∃ d ob kvs, H' d = some (.frz ob (.dK kvs)) ∧ (∀ o u, H₀ d ≠ some (.frz o u)) ∧ Q v (upd H' d (.dK kvs))
def rUpd : V → List V → Hp → VK → Prop := fun x vs H Q => ∃ d o kvs more, x = .ref d ∧ vs = [.ref o] ∧ d ≠ o ∧ H d = some (.dK kvs) ∧ H o = some (.dK more) ∧ kvs.length + more.length ≤ 1000 ∧ Q .non (upd H d (.dK (mergeK kvs more)))
section
variable {prog : Program} {w : World} {A : Around} {E : Value → Shared → Prop} {s : Shared}
end
end L2
namespace L2
open PySem PySem.Spec PyProof.Rows
def tMinD (te : TE) : TE := fun σ H Q => te σ H fun x H1 => ∃ l n, x = .ref l ∧ H1 l = some (.lst [.int n]) ∧ Q (.int n) H1
end L2

/-! ### methods, by their class; fields within a comprehension; a walked dict behind a statement -/
namespace L2
open PySem PySem.Spec PyProof.Rows
/-- a method of the class that may be called -/
structure MCal (P : Program) (w : World) (K : PySem.W.Frag) (mg : Str → Option Value) (base : Heap) (CX : CXT) (k : Nat) (C : Addr) (m : Str) (ps : List Str) (sp : Sp) : Prop where
  ex : ∃ (f : Addr) (fd : FuncData), Meth K C m f ∧ Binds K fd ps [] ∧ FnOk P w K mg base CX k f fd ps sp
section
variable {X : Cx} {CX : CXT} {k : Nat} {C : Addr} {m : Str} {ps : List Str} {sp : Sp} {E : XK} {o e : Expr} {es : List Expr} {ta : TE} {t : TA} {apos pos : Pos}
end
def tThawS (H₀ : Hp) (t : TS) : TS := fun D σ H => t { D with nx := fun σ' H' => ∃ d ob kvs, H' d = some (.frz ob (.dK kvs)) ∧ (∀ o u, H₀ d ≠ some (.frz o u)) ∧ D.nx σ' (upd H' d (.dK kvs)) } σ H
end L2

/-! ### sorted, by keys that all differ and may look at the heap -/
namespace L2.TS
open PySem PySem.Spec PyProof.Rows
abbrev Ky := List Nat
theorem ky_tri {a b : Ky} (hn : a ≠ b) (hl : ¬ a < b) : b < a := by
  by_cases hb : b < a
  · exact hb
  · exact absurd (List.le_antisymm (List.not_lt.mp hb) (List.not_lt.mp hl)) hn
def ka (f : Value → Ky) (xs : Array Keyed) (i : Nat) : Ky := (xs[i]?.map fun p => f p.1).getD []
theorem ka_eq {f : Value → Ky} {xs ys : Array Keyed} {i j : Nat} (e : xs[i]? = ys[j]?) : ka f xs i = ka f ys j := by
  unfold ka; rw [e]
def Up (f : Value → Ky) (xs : Array Keyed) (n : Nat) : Prop := ∀ i j, i < j → j < n → ka f xs i < ka f xs j
def Dn (f : Value → Ky) (xs : Array Keyed) (n : Nat) : Prop := ∀ i j, i < j → j < n → ka f xs j < ka f xs i
def Df (f : Value → Ky) (xs : List Keyed) : Prop := xs.Pairwise fun p q => f p.1 ≠ f q.1
structure Sb (f : Value → Ky) (kd : SortKind) (o : Array Keyed) (st : SortSt) : Prop where
  pm : (arrOf st).Perm o
  kn : kindOf st = kd
  fl : failedOf st = none
  pe : pendingOf st = #[]
  df : Df f (arrOf st).toList
section
variable {prog : Program} {w : World} {A : Around} {E : Value → Shared → Prop} {s : Shared} {o : Array Keyed} {f : Value → Ky} {kd : SortKind}
theorem Sb.sz {st : SortSt} (b : Sb f kd o st) : (arrOf st).size = o.size := b.pm.size_eq
theorem Sb.put {st : SortSt} (b : Sb f kd o st) {xs : Array Keyed} (p : xs.Perm (arrOf st)) : Sb f kd o (setArr st xs) :=
  ⟨p.trans b.pm, b.kn, b.fl, b.pe, ((Array.perm_iff_toList_perm.mp p).symm.pairwise_iff fun h => Ne.symm h).mp b.df⟩
theorem Sb.ne {st : SortSt} (b : Sb f kd o st) {i j : Nat} (hi : i < o.size) (hj : j < o.size) (hij : i ≠ j) : ka f (arrOf st) i ≠ ka f (arrOf st) j := by
  have h := List.pairwise_iff_getElem.mp b.df
  have hi' : i < (arrOf st).size := by rw [b.sz]; exact hi
  have hj' : j < (arrOf st).size := by rw [b.sz]; exact hj
  have e1 : ka f (arrOf st) i = f (arrOf st)[i].1 := by unfold ka; rw [getElem?_pos (arrOf st) i hi']; rfl
  have e2 : ka f (arrOf st) j = f (arrOf st)[j].1 := by unfold ka; rw [getElem?_pos (arrOf st) j hj']; rfl
  rw [e1, e2]
  rcases Nat.lt_or_gt_of_ne hij with l | l
  · exact h i j (by simpa using hi') (by simpa using hj') l
  · exact (h j i (by simpa using hj') (by simpa using hi') l).symm
/-- what a comparison of two of the values gives, at this heap -/
def Cmp (prog : Program) (w : World) (A : Around) (s : Shared) (kd : SortKind) (f : Value → Ky) (o : Array Keyed) : Prop :=
  ∀ (p q : Keyed) (E : Value → Shared → Prop) (Q : Bool → Shared → Prop), p ∈ o.toList → q ∈ o.toList → f p.1 ≠ f q.1 → Q (decide (f p.1 < f q.1)) s → wpAny (model prog w) A (keyLt' kd p.1 q.1) Q E s
theorem lt_at (C : Cmp prog w A s kd f o) {st : SortSt} (b : Sb f kd o st) {i j : Nat} (hi : i < o.size) (hj : j < o.size) (hij : i ≠ j) {Q : Option Bool → SortSt → Prop}
    (h : Q (some (decide (ka f (arrOf st) i < ka f (arrOf st) j))) st) : wpS (model prog w) A E s (ltAt' i j) Q st := by
  have hd := b.ne hi hj hij
  have hi' : i < (arrOf st).size := by rw [b.sz]; exact hi
  have hj' : j < (arrOf st).size := by rw [b.sz]; exact hj
  have g1 : (arrOf st)[i]? = some (arrOf st)[i] := getElem?_pos _ i hi'
  have g2 : (arrOf st)[j]? = some (arrOf st)[j] := getElem?_pos _ j hj'
  have m1 : (arrOf st)[i] ∈ o.toList := (Array.perm_iff_toList_perm.mp b.pm).mem_iff.mp (Array.getElem_mem_toList _)
  have m2 : (arrOf st)[j] ∈ o.toList := (Array.perm_iff_toList_perm.mp b.pm).mem_iff.mp (Array.getElem_mem_toList _)
  have k1 : ka f (arrOf st) i = f (arrOf st)[i].1 := by unfold ka; rw [g1]; rfl
  have k2 : ka f (arrOf st) j = f (arrOf st)[j].1 := by unfold ka; rw [g2]; rfl
  rw [k1, k2] at h hd
  rw [ltAt'_eq]
  refine wpS_bind (wpS_get ?_)
  dsimp only
  rw [elem'_eq, elem'_eq, g1, g2]
  refine wpS_bind (wpS_pure (wpS_bind (wpS_pure ?_)))
  rw [lt'_eq]
  refine wpS_bind (wpS_get ?_)
  rw [b.kn]
  exact wpS_bind (wpS_lift (wpAny_attempt (C _ _ _ _ m1 m2 hd ⟨rfl, wpS_pure h⟩)))
theorem up_one {xs : Array Keyed} : Up f xs 1 := fun i j h1 h2 => by omega
theorem asc (C : Cmp prog w A s kd f o) {st : SortSt} (b : Sb f kd o st) {a r : Nat} (hr : r ≤ o.size) (ha : 1 ≤ a) (har : a ≤ r) (hs : Up f (arrOf st) a) {Q : AscSt → SortSt → Prop}
    (h : ∀ n, a ≤ n → n ≤ r → Up f (arrOf st) n → (n = r ∨ ka f (arrOf st) n < ka f (arrOf st) (n - 1)) → Q (none, n) st) : wpS (model prog w) A E s (ascLoop a r) Q st := by
  unfold ascLoop
  refine wpS_forRange (I := fun x c u => u = st ∧ c = (none, x) ∧ Up f (arrOf st) x) (fun x c u h1 h2 h3 => ?_) (fun c u h3 => ?_) ⟨rfl, rfl, hs⟩
  · obtain ⟨rfl, rfl, up⟩ := h3
    refine wpS_bind (lt_at C b (by omega) (by omega) (by omega) ?_)
    by_cases l : ka f (arrOf u) x < ka f (arrOf u) (x - 1)
    · simp only [l, decide_true, if_true]
      exact wpS_pure (h x h1 (by omega) up (.inr l))
    · simp only [l, decide_false, Bool.false_eq_true, if_false]
      have l' := ky_tri (b.ne (by omega) (by omega) (by omega)) l
      refine wpS_pure ⟨rfl, rfl, fun i j hij hj => ?_⟩
      by_cases jx : j < x
      · exact up i j hij jx
      · obtain rfl : j = x := by omega
        by_cases ix : i = j - 1
        · rw [ix]; exact l'
        · exact List.lt_trans (up i (j - 1) (by omega) (by omega)) l'
  · obtain ⟨rfl, rfl, up⟩ := h3
    rw [show max a r = r by omega] at up ⊢
    exact h r har (Nat.le_refl _) up (.inl rfl)
theorem ka_mirror {xs : Array Keyed} {n : Nat} (hn : n ≤ xs.size) (k : Nat) : ka f (mirror xs 0 n ((n - 0) / 2)) k = if k < n then ka f xs (n - 1 - k) else ka f xs k := by
  have e := getElem?_mirror_all (i := 0) hn k
  by_cases l : k < n
  · rw [if_pos ⟨Nat.zero_le _, l⟩] at e
    rw [if_pos l, ka_eq e, Nat.zero_add]
  · rw [if_neg fun q => l q.2] at e
    rw [if_neg l, ka_eq e]
theorem tail (C : Cmp prog w A s kd f o) {st : SortSt} (b : Sb f kd o st) {n r : Nat} (hr : r ≤ o.size) (h1 : 1 ≤ n) (hn : n ≤ r) (hs : Dn f (arrOf st) n) {Q : Option Nat → SortSt → Prop}
    (h : ∀ m u, Sb f kd o u → 1 ≤ m → m ≤ r → Up f (arrOf u) m → Q (some m) u) : wpS (model prog w) A E s (tail3 n r) Q st := by
  unfold tail3
  have z : n ≤ (arrOf st).size := by rw [b.sz]; omega
  refine wpS_bind (wpS_reverse ?_)
  have b' := b.put (mirror_perm (arrOf st) 0 n ((n - 0) / 2))
  refine wpS_bind (asc C b' hr h1 hn (fun i j hij hj => ?_) fun m q1 q2 q3 _ => wpS_pure (h m _ b' (by omega) q2 q3))
  show ka f (mirror _ 0 n _) i < ka f (mirror _ 0 n _) j
  rw [ka_mirror z, ka_mirror z, if_pos (by omega), if_pos hj]
  exact hs _ _ (by omega) (by omega)
theorem desc (C : Cmp prog w A s kd f o) {st : SortSt} (b : Sb f kd o st) {n r : Nat} (hr : r ≤ o.size) (h1 : 1 ≤ n) (hn : n ≤ r) (hs : Dn f (arrOf st) n) {Q : DescSt → SortSt → Prop}
    (h : ∀ m, n ≤ m → m ≤ r → Dn f (arrOf st) m → Q (none, m, 0) st) : wpS (model prog w) A E s (descLoop n r) Q st := by
  unfold descLoop
  refine wpS_forRange (I := fun x c u => u = st ∧ c = (none, x, 0) ∧ Dn f (arrOf st) x) (fun x c u q1 q2 q3 => ?_) (fun c u q3 => ?_) ⟨rfl, rfl, hs⟩
  · obtain ⟨rfl, rfl, dn⟩ := q3
    dsimp only
    refine wpS_bind (lt_at C b (by omega) (by omega) (by omega) ?_)
    by_cases l : ka f (arrOf u) x < ka f (arrOf u) (x - 1)
    · simp only [l, decide_true, if_true, gt_iff_lt, Nat.lt_irrefl, if_false]
      refine wpS_pure ⟨rfl, rfl, fun i j hij hj => ?_⟩
      by_cases jx : j < x
      · exact dn i j hij jx
      · obtain rfl : j = x := by omega
        by_cases ix : i = j - 1
        · rw [ix]; exact l
        · exact List.lt_trans l (dn i (j - 1) (by omega) (by omega))
    · simp only [l, decide_false, Bool.false_eq_true, if_false]
      have l' := ky_tri (b.ne (by omega) (by omega) (by omega)) l
      refine wpS_bind (lt_at C b (by omega) (by omega) (by omega) ?_)
      simp only [l', decide_true, if_true]
      exact wpS_pure (h x q1 (by omega) dn)
  · obtain ⟨rfl, rfl, dn⟩ := q3
    rw [show max n r = r by omega] at dn ⊢
    exact h r hn (Nat.le_refl _) dn
theorem count (C : Cmp prog w A s kd f o) {st : SortSt} (b : Sb f kd o st) {r : Nat} (hr : r ≤ o.size) (h1 : 1 ≤ r) {Q : Option Nat → SortSt → Prop}
    (h : ∀ m u, Sb f kd o u → 1 ≤ m → m ≤ r → Up f (arrOf u) m → Q (some m) u) : wpS (model prog w) A E s (countRun' 0 r) Q st := by
  rw [countRun0_eq]
  refine wpS_bind (asc C b hr (Nat.le_refl 1) h1 up_one fun n q1 q2 up or => ?_)
  dsimp only
  by_cases nr : n = r
  · rw [if_pos (by simpa using nr)]
    exact wpS_pure (h n st b q1 q2 up)
  · rw [if_neg (by simpa using nr)]
    by_cases n1 : n > 1
    · rw [if_pos n1]
      refine wpS_bind (lt_at C b (by omega) (by omega) (by omega) ?_)
      have l := up 0 (n - 1) (by omega) (by omega)
      simp only [l, decide_true, if_true]
      exact wpS_pure (h n st b q1 q2 up)
    · rw [if_neg n1]
      obtain rfl : n = 1 := by omega
      have l := or.resolve_left nr
      unfold descPart
      refine wpS_bind (wpS_lift (wpAny_rule ⟨rfl, ?_⟩))
      refine wpS_bind (desc C b hr (by omega) (by omega) (fun i j hij hj => ?_) fun m p1 p2 dn => ?_)
      · obtain rfl : i = 0 := by omega
        obtain rfl : j = 1 := by omega
        exact l
      · simp only [gt_iff_lt, Nat.lt_irrefl, if_false]
        exact tail C b hr (by omega) p2 dn h
theorem ka_bubble {xs : Array Keyed} {k l : Nat} (hk : k < xs.size) (hl : l ≤ k) (i : Nat) : ka f (bubble xs k (k - l)) i = if i = l then ka f xs k else if l < i ∧ i ≤ k then ka f xs (i - 1) else ka f xs i := by
  have e := getElem?_bubble hk (k - l) (Nat.sub_le _ _) i
  rw [show k - (k - l) = l by omega] at e
  by_cases c1 : i = l
  · rw [if_pos c1] at e ⊢; exact ka_eq e
  · rw [if_neg c1] at e ⊢
    by_cases c2 : l < i ∧ i ≤ k
    · rw [if_pos c2] at e ⊢; exact ka_eq e
    · rw [if_neg c2] at e ⊢; exact ka_eq e
end
end L2.TS

namespace L2.TS
open PySem PySem.Spec PyProof.Rows
section
variable {prog : Program} {w : World} {A : Around} {E : Value → Shared → Prop} {s : Shared} {o : Array Keyed} {f : Value → Ky} {kd : SortKind}
/-- where the k-th goes: l so that all before are less, all from it on are more -/
def At (f : Value → Ky) (xs : Array Keyed) (k l r : Nat) : Prop := (∀ i, i < l → ka f xs i < ka f xs k) ∧ ∀ i, r ≤ i → i < k → ka f xs k < ka f xs i
theorem up_put {xs : Array Keyed} {k l : Nat} (hk : k < xs.size) (hl : l ≤ k) (up : Up f xs k) (a : At f xs k l l) : Up f (bubble xs k (k - l)) (k + 1) := by
  intro i j hij hj
  rw [ka_bubble hk hl, ka_bubble hk hl]
  by_cases c1 : i = l
  · subst c1
    rw [if_pos rfl, if_neg (by omega), if_pos (by omega)]
    exact a.2 _ (by omega) (by omega)
  · rw [if_neg c1]
    by_cases c2 : j = l
    · subst c2
      rw [if_pos rfl, if_neg (by omega)]
      exact a.1 _ hij
    · rw [if_neg c2]
      by_cases c3 : l < i ∧ i ≤ k
      · rw [if_pos c3, if_pos (by omega)]
        exact up _ _ (by omega) (by omega)
      · rw [if_neg c3]
        by_cases c4 : l < j ∧ j ≤ k
        · rw [if_pos c4]
          exact up _ _ (by omega) (by omega)
        · rw [if_neg c4]
          exact up _ _ hij (by omega)
theorem binary (C : Cmp prog w A s kd f o) {st : SortSt} (b : Sb f kd o st) {n m : Nat} (hn : n ≤ o.size) (hm : m ≤ n) (hs : Up f (arrOf st) m) {Q : Bool → SortSt → Prop}
    (h : ∀ u, Sb f kd o u → Up f (arrOf u) n → Q true u) : wpS (model prog w) A E s (binarySort' 0 n m) Q st := by
  rw [binarySort'_eq]
  simp only [Nat.zero_add]
  refine wpS_bind (wpS_mono (wpS_forRange (I := fun k c u => c = (none, ()) ∧ Sb f kd o u ∧ Up f (arrOf u) (min k n)) (Q := fun c u => c = (none, ()) ∧ Sb f kd o u ∧ Up f (arrOf u) n)
    (fun k c u q1 q2 q3 => ?_) (fun c u q3 => ?_) ⟨rfl, b, fun i j hij hj => hs i j hij (by omega)⟩) fun c u q => ?_)
  · obtain ⟨rfl, b', up⟩ := q3
    rw [show min k n = k by omega] at up
    have ko : k < o.size := by omega
    refine wpS_bind (wpS_mono (wpS_forRange (I := fun x c v => v = u ∧ ∃ l r, c = (none, l, r) ∧ l ≤ r ∧ r ≤ k ∧ r - l ≤ k - x ∧ At f (arrOf u) k l r) (Q := fun c v => v = u ∧ ∃ l r, c = (none, l, r) ∧ l ≤ k ∧ At f (arrOf u) k l l)
      (fun x c v p1 p2 p3 => ?_) (fun c v p3 => ?_) ⟨rfl, 0, k, rfl, by omega, by omega, by omega, fun i hi => by omega, fun i g1 g2 => by omega⟩) fun c v p => ?_)
    · obtain ⟨rfl, l, r, rfl, g1, g2, g3, a1, a2⟩ := p3
      dsimp only
      by_cases lr : l ≥ r
      · rw [if_pos lr]
        obtain rfl : l = r := by omega
        exact wpS_pure ⟨rfl, l, l, rfl, g2, a1, a2⟩
      · rw [if_neg lr]
        refine wpS_bind (lt_at C b' ko (by omega) (by omega) ?_)
        by_cases ls : ka f (arrOf v) k < ka f (arrOf v) ((l + r) / 2)
        · simp only [ls, decide_true, if_true]
          refine wpS_pure ⟨rfl, l, (l + r) / 2, rfl, by omega, by omega, by omega, a1, fun i t1 t2 => ?_⟩
          by_cases im : i = (l + r) / 2
          · rw [im]; exact ls
          · exact List.lt_trans ls (up _ _ (by omega) t2)
        · simp only [ls, decide_false, Bool.false_eq_true, if_false]
          have ls' := ky_tri (b'.ne ko (by omega) (by omega)) ls
          refine wpS_pure ⟨rfl, (l + r) / 2 + 1, r, rfl, by omega, by omega, by omega, fun i t1 => ?_, a2⟩
          by_cases im : i = (l + r) / 2
          · rw [im]; exact ls'
          · exact List.lt_trans (up _ _ (by omega) (by omega)) ls'
    · obtain ⟨rfl, l, r, rfl, g1, g2, g3, a1⟩ := p3
      obtain rfl : l = r := by omega
      exact ⟨rfl, l, l, rfl, g2, a1⟩
    · obtain ⟨rfl, l, r, rfl, g2, a1⟩ := p
      dsimp only
      rw [moveDown'_eq]
      refine wpS_bind (wpS_modify (wpS_pure ⟨rfl, b'.put (bubble_perm _ _ _), ?_⟩))
      rw [show min (k + 1) n = k + 1 by omega]
      exact up_put (by rw [b'.sz]; exact ko) g2 up a1
  · obtain ⟨rfl, b', up⟩ := q3
    rw [show min (max (max m 1) n) n = n by omega] at up
    exact ⟨rfl, b', up⟩
  · obtain ⟨rfl, b', up⟩ := q
    exact wpS_pure (h u b' up)
def Dne (f : Value → Ky) (o : Array Keyed) (st : SortSt) : Prop := (arrOf st).Perm o ∧ failedOf st = none ∧ (pendingOf st).size = 1 ∧ Up f (arrOf st) o.size
theorem Sb.dne {st : SortSt} (b : Sb f kd o st) (up : Up f (arrOf st) o.size) {x : Nat × Nat × Nat} : Dne f o (setPending st ((pendingOf st).push x)) :=
  ⟨b.pm, b.fl, by show ((pendingOf st).push x).size = 1; rw [b.pe]; rfl, up⟩
theorem runs (C : Cmp prog w A s kd f o) {st : SortSt} (b : Sb f kd o st) (h2 : 2 ≤ o.size) (h64 : o.size < 64) {Q : Unit → SortSt → Prop}
    (h : ∀ u, (arrOf u).Perm o → failedOf u = none → Up f (arrOf u) o.size → Q () u) : wpS (model prog w) A E s sortRuns' Q st := by
  rw [sortRuns'_eq]
  refine wpS_bind (wpS_get ?_)
  dsimp only
  have mr : minRun' o.size o.size 0 = o.size := by
    generalize hz : o.size = z at h2 h64
    cases z with
    | zero => omega
    | succ z => rw [minRun'_succ, if_pos h64]
  simp only [b.sz, mr]
  refine wpS_bind (wpS_mono (wpS_forRange (I := fun x c u => (x = 0 ∧ c = (none, 0) ∧ Sb f kd o u) ∨ (0 < x ∧ c = (none, o.size) ∧ Dne f o u)) (Q := fun c u => c = (none, o.size) ∧ Dne f o u)
    (fun x c u q1 q2 q3 => ?_) (fun c u q3 => ?_) (.inl ⟨rfl, rfl, b⟩)) fun c u q => ?_)
  · rcases q3 with ⟨rfl, rfl, b'⟩ | ⟨x1, rfl, d⟩
    · dsimp only
      rw [if_neg (by omega)]
      simp only [Nat.sub_zero, Nat.min_self, Nat.zero_add]
      refine wpS_bind (count C b' (Nat.le_refl _) (by omega) fun m v b2 m1 m2 up => ?_)
      dsimp only
      by_cases lt : m < o.size
      · rw [if_pos lt]
        refine wpS_bind (wpS_lift (wpAny_rule ⟨rfl, ?_⟩))
        refine wpS_bind (binary C b2 (Nat.le_refl _) m2 up fun v3 b3 up3 => ?_)
        simp only [Bool.not_true, Bool.false_eq_true, if_false]
        refine wpS_bind (wpS_get ?_)
        rw [show (pendingOf v3).back? = none by rw [b3.pe]; rfl]
        exact wpS_bind (wpS_modify (wpS_pure (.inr ⟨by omega, rfl, b3.dne up3⟩)))
      · rw [if_neg lt]
        obtain rfl : m = o.size := by omega
        refine wpS_bind (wpS_get ?_)
        rw [show (pendingOf v).back? = none by rw [b2.pe]; rfl]
        exact wpS_bind (wpS_modify (wpS_pure (.inr ⟨by omega, rfl, b2.dne up⟩)))
    · dsimp only
      rw [if_pos (Nat.le_refl _)]
      exact wpS_pure ⟨rfl, d⟩
  · rcases q3 with ⟨x0, _, _⟩ | ⟨_, e, d⟩
    · omega
    · exact ⟨e, d⟩
  · obtain ⟨rfl, d⟩ := q
    dsimp only
    refine wpS_bind (wpS_mono (wpS_forRange (I := fun _ c v => v = u ∧ c = (none, ())) (Q := fun c v => v = u ∧ c = (none, ())) (fun x c v p1 p2 p3 => ?_) (fun _ _ p => p) ⟨rfl, rfl⟩) fun c v p => ?_)
    · obtain ⟨rfl, rfl⟩ := p3
      refine wpS_bind (wpS_get ?_)
      rw [if_pos (by rw [d.2.2.1]; exact Nat.le_refl 1)]
      exact wpS_pure ⟨rfl, rfl⟩
    · obtain ⟨rfl, rfl⟩ := p
      exact wpS_pure (h _ d.1 d.2.1 d.2.2.2)
end
end L2.TS

/-! ### sorted of tuples whose first texts differ -/
namespace L2.TS
open PySem PySem.Spec PyProof.Rows
/-- a tuple whose first item is the text nm v -/
def Tp (h : Heap) (nm : Value → Str) (v : Value) : Prop := ∃ a o xs n t r, v = .ref a ∧ h.get? a = some o ∧ o.cls = .type "tuple" ∧ o.data = .seq xs n ∧ xs.toList = .str (nm v) t :: r
theorem Tp.keep {h h' : Heap} {nm : Value → Str} {v : Value} {a : Addr} {its : Array Value} {m : Nat} (t : Tp h nm v) (ha : h.get? a = some (seqObj "list" its m)) (k : ∀ b o, b ≠ a → h.get? b = some o → h'.get? b = some o) : Tp h' nm v := by
  obtain ⟨b, o, xs, n, t, r, e, ho, hc, hd, hx⟩ := t
  refine ⟨b, o, xs, n, t, r, e, k b o ?_ ho, hc, hd, hx⟩
  rintro rfl
  rw [ho] at ha
  obtain rfl := Option.some.inj ha
  exact absurd (show Value.type "list" = Value.type "tuple" from hc) (by simp)
theorem Tp.kept {h h' : Heap} {nm : Value → Str} {v : Value} (t : Tp h nm v) (k : ∀ b o, h.get? b = some o → h'.get? b = some o) : Tp h' nm v := by
  obtain ⟨b, o, xs, n, t, r, e, ho, hc, hd, hx⟩ := t
  exact ⟨b, o, xs, n, t, r, e, k b o ho, hc, hd, hx⟩
theorem firsts {h : Heap} {nm : Value → Str} : ∀ (vs : List Value), (∀ v ∈ vs, Tp h nm v) → ∃ fs, PySem.W.KatTups h vs fs ∧ fs.length = vs.length ∧ ∀ v ∈ fs, ∃ x t, v = .str x t
  | [], _ => ⟨[], trivial, rfl, fun v h => nomatch h⟩
  | v :: vs, H => by
    obtain ⟨fs, k, l, e⟩ := firsts vs fun u hu => H u (List.mem_cons_of_mem _ hu)
    obtain ⟨a, o, xs, n, t, r, rfl, ho, hc, hd, hx⟩ := H v (List.mem_cons_self ..)
    refine ⟨_ :: fs, PySem.W.KatTups.cons ho hc hd (f := .str (nm (.ref a)) t) ?_ k, by simp [l], ?_⟩
    · rw [← Array.getElem?_toList, hx]; rfl
    · intro u hu
      rcases List.mem_cons.mp hu with rfl | hu
      · exact ⟨_, _, rfl⟩
      · exact e u hu
theorem zipSelf : ∀ vs : List Value, vs.zip vs = vs.map fun v => (v, v)
  | [] => rfl
  | v :: vs => by rw [List.zip_cons_cons, zipSelf vs, List.map_cons]
theorem str_cps {x y : Str} (h : x.cps.toList = y.cps.toList) : x = y := by
  cases x; cases y
  simpa using h
section
variable {prog : Program} {w : World} {A : Around} {E : Value → Shared → Prop} {s : Shared} {nm : Value → Str} {vs : List Value}
abbrev kf (nm : Value → Str) : Value → Ky := fun v => (nm v).cps.toList
theorem kind {Q : SortKind → Shared → Prop} (h0 : 0 < vs.length) (T : ∀ v ∈ vs, Tp s.heap nm v) (h : Q (tuples' true) s) : wpAny (model prog w) A (keyKind' vs.toArray) Q E s := by
  obtain ⟨fs, k, l, e⟩ := firsts vs T
  refine PySem.W.kat_kind (T := .type "str") k (by omega) (fun v hv => ?_) (by decide) ?_
  · obtain ⟨x, t, rfl⟩ := e v hv
    exact PySem.W.Looks.now
  · have hb : (Value.type "str" != Value.type "tuple") = true := by decide
    rw [hb]; exact h
theorem cmp (T : ∀ v ∈ vs, Tp s.heap nm v) : Cmp prog w A s (tuples' true) (kf nm) (pairsOf vs) := by
  intro p q E Q hp hq hn h
  have m : ∀ p ∈ (pairsOf vs).toList, p.1 ∈ vs := fun p hp => by rw [pairsOf_toList] at hp; exact (List.of_mem_zip hp).1
  obtain ⟨a, o, xs, n, t, r, ea, ho, hc, hd, hx⟩ := T _ (m p hp)
  obtain ⟨b, o', ys, n', t', r', eb, ho', hc', hd', hy⟩ := T _ (m q hq)
  have ne : nm p.1 ≠ nm q.1 := fun z => hn (by show (nm p.1).cps.toList = _; rw [z])
  rw [show keyLt' (tuples' true) p.1 q.1 = keyLt' (tuples' true) (.ref a) (.ref b) by rw [ea, eb]]
  refine PySem.W.kat_lt ho hd ho' hd' ?_
  rw [hx, hy, List.zip_cons_cons]
  refine PySem.W.kat_cons (wpAny_eqBool_str ?_)
  rw [decide_eq_false ne]
  exact PySem.W.kat_no (oneLt_str h)
theorem out_of {f : Value → Ky} {xs : Array Keyed} (hp : xs.Perm (pairsOf vs)) (hu : Up f xs (pairsOf vs).size) : (xs.map (·.2)).toList.Perm vs ∧ (xs.map (·.2)).toList.Pairwise fun u v => f u < f v := by
  have hl := Array.perm_iff_toList_perm.mp hp
  rw [pairsOf_toList, zipSelf] at hl
  have same : ∀ p ∈ xs.toList, p.1 = p.2 := fun p h => by
    obtain ⟨v, _, rfl⟩ := List.mem_map.mp (hl.mem_iff.mp h)
    rfl
  refine ⟨?_, ?_⟩
  · rw [Array.toList_map]
    refine (hl.map (·.2)).trans ?_
    rw [List.map_map, show ((fun p : Keyed => p.2) ∘ fun v : Value => (v, v)) = id from rfl, List.map_id]
  · rw [Array.toList_map, List.pairwise_map, List.pairwise_iff_getElem]
    intro i j hi hj hij
    rw [← same _ (List.getElem_mem hi), ← same _ (List.getElem_mem hj)]
    have hi' : i < xs.size := by simpa using hi
    have hj' : j < xs.size := by simpa using hj
    have g := hu i j hij (by rw [← hp.size_eq]; exact hj')
    have e1 : ka f xs i = f xs[i].1 := by unfold ka; rw [getElem?_pos xs i hi']; rfl
    have e2 : ka f xs j = f xs[j].1 := by unfold ka; rw [getElem?_pos xs j hj']; rfl
    rw [e1, e2] at g
    simpa using g
theorem sort_tup {a : Addr} {n : Nat} {R : PySem.Fin → Shared → Prop} (ho : s.heap.get? a = some (seqObj "list" vs.toArray n)) (T : ∀ v ∈ vs, Tp s.heap nm v) (D : vs.Pairwise fun u v => nm u ≠ nm v) (h64 : vs.length < 64)
    (h : ∀ out : List Value, out.Perm vs → (out.Pairwise fun u v => kf nm u < kf nm v) → R (.done (.ret .none)) { s with heap := sortedHeap s.heap a vs out.toArray }) : wpAny (model prog w) A (Builtin.«list.sort» ⟨[.ref a], []⟩) R E s := by
  have fin : ∀ xs : Array Keyed, xs.Perm (pairsOf vs) → Up (kf nm) xs (pairsOf vs).size → R (.done (.ret .none)) { s with heap := sortedHeap s.heap a vs (xs.map (·.2)) } := fun xs hp hu => by
    obtain ⟨q1, q2⟩ := out_of hp hu
    have e := h _ q1 q2
    rw [Array.toArray_toList] at e
    exact e
  rw [list_sort_plain]; have lt : a < s.heap.objs.size := Heap.lt_size ho
  refine wpAny_bind (listItems_at ho rfl (wpAny_bind (listUpdate_at ho rfl ?_)))
  obtain ⟨e1, o1⟩ : ∃ e1, (s.heap.update a (Obj.mapSeq fun _ => #[])).get? a = some (seqObj "list" #[] e1) := ⟨_, get?_update_seq ho (fun _ => #[])⟩
  refine wpAny_bind (seqEpoch_at o1 rfl (wpAny_bind (wpAny_newTuple (wpAny_bind (wpAny_newList (wpAny_holding ?_))))))
  show wpAny (model prog w) A _ R E { s with heap := ((s.heap.update a (Obj.mapSeq fun _ => #[])).push (seqObj "tuple" vs.toArray 0)).push (seqObj "list" #[] 0) }
  generalize hg : ((s.heap.update a (Obj.mapSeq fun _ => #[])).push (seqObj "tuple" vs.toArray 0)).push (seqObj "list" #[] 0) = g
  have keep : ∀ b o, b ≠ a → s.heap.get? b = some o → g.get? b = some o := fun b o nb hb => by
    have l := Heap.lt_size hb
    rw [← hg, Heap.get?_push_ne _ _ _ (by rw [size_push', Heap.size_update]; exact Nat.ne_of_lt (Nat.lt_succ_of_lt l)), Heap.get?_push_ne _ _ _ (by rw [Heap.size_update]; exact Nat.ne_of_lt l), Heap.get?_update_ne _ _ _ _ nb]
    exact hb
  have o6 : g.get? a = some (seqObj "list" #[] e1) := by
    rw [← hg, Heap.get?_push_ne _ _ _ (by rw [size_push', Heap.size_update]; exact Nat.ne_of_lt (Nat.lt_succ_of_lt lt)), Heap.get?_push_ne _ _ _ (by rw [Heap.size_update]; exact Nat.ne_of_lt lt)]
    exact o1
  have T' : ∀ v ∈ vs, Tp g nm v := fun v hv => (T v hv).keep ho keep
  have fin' : ∀ xs : Array Keyed, xs.Perm (pairsOf vs) → Up (kf nm) xs (pairsOf vs).size → R (.done (.ret .none)) { s with heap := g.update a (Obj.mapSeq fun _ => xs.map (·.2)) } := fun xs hp hu => by
    rw [← hg]; exact fin xs hp hu
  dsimp only
  have z : vs.toArray.size = vs.length := by simp
  by_cases h2 : vs.toArray.size < 2
  · rw [if_pos h2, if_pos h2]
    refine wpAny_bind (wpAny_pure ?_)
    rw [StateT.run_pure]
    refine wpAny_bind (wpAny_pure ?_)
    dsimp only
    refine wpAny_bind (seqEpoch_at o6 rfl (wpAny_bind (listUpdate_at o6 rfl ?_ (hsz2 := by rw [Array.size_map]; show (pairsOf vs).size ≤ _; rw [pairsOf_size, sizeLine_eq]; omega))))
    simp only [bne_self_eq_false, Bool.false_eq_true, if_false]
    refine wpAny_pure (fin' (vs.toArray.zip vs.toArray) (Array.Perm.refl _) fun i j q1 q2 => ?_)
    rw [pairsOf_size] at q2; omega
  · rw [if_neg h2, if_neg h2]
    refine wpAny_bind (kind (by omega) T' ?_)
    refine wpAny_bind (wpAny_mono (runs (kd := tuples' true) (f := kf nm) (o := pairsOf vs) (st := SortSt.mk' (tuples' true) (vs.toArray.zip vs.toArray) #[] 7 none) (Q := fun _ st => (arrOf st).Perm (pairsOf vs) ∧ failedOf st = none ∧ Up (kf nm) (arrOf st) (pairsOf vs).size)
      (cmp T') ⟨Array.Perm.refl _, rfl, rfl, rfl, ?_⟩ (by rw [pairsOf_size]; omega) (by rw [pairsOf_size]; exact h64) fun st x1 x2 x3 => ⟨x1, x2, x3⟩) ?_ fun _ _ e => e)
    · show Df (kf nm) (pairsOf vs).toList
      rw [pairsOf_toList, zipSelf]
      exact List.pairwise_map.mpr (D.imp fun ne z => ne (str_cps z))
    · rintro ⟨⟨⟩, st⟩ s' ⟨rfl, hp, hf, hs⟩
      dsimp only
      refine wpAny_bind (seqEpoch_at o6 rfl (wpAny_bind (listUpdate_at o6 rfl ?_ (hsz2 := by refine Nat.le_trans (Nat.le_of_eq ((Array.size_map ..).trans (hp.size_eq.trans (pairsOf_size _)))) ?_; rw [sizeLine_eq]; omega))))
      rw [hf]
      simp only [bne_self_eq_false, Bool.false_eq_true, if_false]
      exact wpAny_pure (fin' _ hp hs)
theorem sorted_tup {l : Addr} {Q : Value → Shared → Prop} (hl : s.heap.IsList l vs.toArray) (T : ∀ v ∈ vs, Tp s.heap nm v) (D : vs.Pairwise fun u v => nm u ≠ nm v) (h64 : vs.length < 64)
    (h : ∀ out : List Value, out.Perm vs → (out.Pairwise fun u v => kf nm u < kf nm v) → Q (.ref (s.heap.objs.size + 1)) { s with heap := sortedAll s.heap vs out.toArray }) : wpAny (model prog w) A (call (.builtin "sorted") [.ref l]) Q E s := by
  refine Calls.call_function_entry kind_sorted plain_sorted entry_sorted (args_sorted1 _) ?_
  unfold Builtin.«sorted»; refine wpAny_bind (m := checkCount "sorted" 1 1 _) (wpAny_pure (wpAny_bind (collect_list hl (wpAny_bind (wpAny_newList ?_)))))
  have z : ((s.heap.push (seqObj "list" #[] 0)).update s.heap.objs.size (Obj.mapSeq (· ++ vs.toArray))).objs.size = s.heap.objs.size + 1 := by rw [Heap.size_update, size_push']
  have oL : (((s.heap.push (seqObj "list" #[] 0)).update s.heap.objs.size (Obj.mapSeq (· ++ vs.toArray))).push (seqObj "list" vs.toArray 0)).get? (s.heap.objs.size + 1) = some (seqObj "list" vs.toArray 0) := by rw [← z]; exact Heap.get?_push_size _ rfl
  have T' : ∀ v ∈ vs, Tp (((s.heap.push (seqObj "list" #[] 0)).update s.heap.objs.size (Obj.mapSeq (· ++ vs.toArray))).push (seqObj "list" vs.toArray 0)) nm v := fun v hv => (T v hv).kept fun b o hb => by
    have lt := Heap.lt_size hb
    rw [Heap.get?_push_ne _ _ _ (by rw [z]; exact Nat.ne_of_lt (Nat.lt_succ_of_lt lt)), Heap.get?_update_ne _ _ _ _ (Nat.ne_of_lt lt), Heap.get?_push_ne _ _ _ (Nat.ne_of_lt lt)]
    exact hb
  show wpAny _ _ _ _ _ { s with heap := (((s.heap.push (seqObj "list" #[] 0)).update s.heap.objs.size (Obj.mapSeq (· ++ vs.toArray))).push (seqObj "list" vs.toArray 0)) }
  rw [z]
  exact wpAny_bind (wpAny_holding (wpAny_call_entry slot_list_sort ⟨_, oL, rfl⟩ entry_list_sort (sort_tup oL T' D h64 fun out x1 x2 => ⟨_, rfl, wpAny_pure ⟨_, rfl, h out x1 x2⟩⟩) (args_list_sort _)))
end
end L2.TS
namespace L2
open PySem PySem.Spec PyProof.Rows
/-- the first text of the tuple there -/
def nmH (H : Hp) (a : Addr) : Str := match H a with
  | some (.tup (.str x :: _)) => x
  | _ => ⟨#[]⟩
theorem nmH_eq {H : Hp} {a : Addr} {x : Str} {r : List V} (h : H a = some (.tup (.str x :: r))) : nmH H a = x := by unfold nmH; rw [h]
def nmV (H : Hp) : Value → Str
  | .ref a => nmH H a
  | _ => ⟨#[]⟩
theorem refs_of : ∀ {as : List Addr} {us : List Value}, Vals (as.map V.ref) us → us = as.map Value.ref
  | [], _, r => by rw [List.map_nil] at r; cases r; rfl
  | a :: as, _, r => by
    rw [List.map_cons] at r
    cases r with
    | cons r1 r2 =>
      have e : _ = Value.ref a := r1
      rw [e, refs_of r2, List.map_cons]
theorem vals_refs : ∀ as : List Addr, Vals (as.map V.ref) (as.map Value.ref)
  | [] => .nil
  | _ :: as => .cons rfl (vals_refs as)
def adOf : Value → Addr
  | .ref a => a
  | _ => 0
def rSortT (K : PySem.W.Frag) : List V → Hp → VK → Prop := fun xs H Q => ∃ a as, xs = [.ref a] ∧ SqL K H a (as.map V.ref) ∧ as.length < 64 ∧ (∀ q ∈ as, ∃ x r, H q = some (.tup (.str x :: r))) ∧ (as.map (nmH H)).Nodup ∧
  ∀ (p : Addr) (as' : List Addr), as'.Perm as → (as'.Pairwise fun u v => (nmH H u).cps.toList < (nmH H v).cps.toList) → H p = none → Q (.ref p) (upd H p (.lst (as'.map V.ref)))
theorem call_sortT {X : Cx} : CallR X (.builtin "sorted") (rSortT X.K) := by
  intro pins s σ H xs us Q I r h
  obtain ⟨a, as, rfl, hq, h64, ht, nd, q⟩ := h
  obtain ⟨u, rfl, rx⟩ := vals1 r
  cases rx
  obtain ⟨its, r', pl, hz⟩ := I.list hq
  obtain rfl := refs_of r'
  refine TS.sorted_tup (nm := nmV H) pl.isList (fun v hv => ?_) (List.pairwise_map.mpr (List.pairwise_map.mp nd)) (by rw [List.length_map]; exact h64) fun out x1 x2 => ?_
  · obtain ⟨b, hb, rfl⟩ := List.mem_map.mp hv
    obtain ⟨x, r, e⟩ := ht b hb
    obtain ⟨its, r2, ⟨o, ho, hc, n, hd⟩, _⟩ := I.tuple (SqT.of e)
    cases r2 with
    | cons y1 y2 =>
      obtain ⟨t, rfl⟩ := y1
      exact ⟨b, o, _, n, t, _, rfl, ho, hc, hd, by show _ = Value.str (nmH H b) t :: _; rw [nmH_eq e]⟩
  · have er : ∀ v ∈ out, v = .ref (adOf v) := fun v hv => by
      obtain ⟨b, _, rfl⟩ := List.mem_map.mp (x1.mem_iff.mp hv)
      rfl
    have eo : out = (out.map adOf).map Value.ref := by
      rw [List.map_map]
      conv => lhs; rw [← List.map_id out]
      exact List.map_congr_left er
    have pm : (out.map adOf).Perm as := by
      have := x1.map adOf
      rw [List.map_map, show (adOf ∘ Value.ref) = id from rfl, List.map_id] at this
      exact this
    obtain ⟨e, he⟩ := sortedAll_at s.heap (as.map Value.ref) out.toArray
    have va : Vals ((out.map adOf).map V.ref) out := by
      have z := vals_refs (out.map adOf)
      rw [← eo] at z
      exact z
    refine ⟨.ref (s.heap.objs.size + 1), _, I.laid (a := s.heap.objs.size + 1) (o := .lst ((out.map adOf).map V.ref)) (t' := s.toks) (fun _ _ => sortedAll_old) (Nat.le_succ _) (lst_ok (its := out) (e := e) va ?_ he), rfl, q _ (out.map adOf) pm ?_ (I.hok.fresh (Nat.le_succ _))⟩
    · rw [List.length_map, pm.length_eq]
      exact sz1000 (by omega)
    · rw [eo] at x2
      have z := List.pairwise_map.mp x2
      exact z
end L2

/-! ### sorted(xs, key=lambda x: x[k]), a def's table of codes tracked -/
namespace L2.LM
open PySem PySem.Spec PySem.Calls PyProof.Rows PySem.W
abbrev lbody (x : Str) (k : Int) (kd : Nat) (p1 p2 p3 : Pos) : Expr := .Subscript (.Name x p1) (.Constant (.int k) kd p2) p3
section
variable {prog : Program} {w : World} {A : Around} {E : Value → Shared → Prop} {s : Shared} {f c' q : Addr} {name qual x : Str} {params : Arguments} {scope : Scope} {pm ctv : Value} {k n : Int} {kd j : Nat} {p1 p2 p3 : Pos} {items : Array Value} {t : Tok}
theorem lam_call {Q : Value → Shared → Prop} (hroom : A.depth < recursionLimit)
    (ho : s.heap.get? f = some (kla_obj name qual params (lbody x k kd p1 p2 p3) scope [] pm c' ctv)) (hcd : s.heap.CodeRec (.ref c') qual) (lim : s.heap.NoLimit)
    (hb : bindArgs (kla_fn name qual params (lbody x k kd p1 p2 p3) scope [] pm (.ref c') ctv) ⟨[.ref q], []⟩ = pure [(x, .ref q)])
    (hk : scope.kind = .function) (hco : scope.isCoroutine = false) (hgen : scope.isGenerator = false) (hcell : ∀ x ∈ scope.names, x.2 ≠ .cell) (hloc : scope.names.lookup x = some .local) (hd : (x == ("__debug__" : Str)) = false)
    (ht : IsTup s.heap q items) (hlo : -(2 ^ 63) ≤ k) (hhi : k < 2 ^ 63) (hj : seqIndex? k items.size = some j) (hx : items[j]? = some (.int n t))
    (h : ∀ h1 tk, (∀ b o, s.heap.get? b = some o → h1.get? b = some o) → Q (.int n t) { s with heap := h1, toks := tk }) : wpAny (model prog w) A (call (.ref f) [.ref q]) Q E s := by
  refine wpAny_call (kla_callFunE hroom ho rfl hco hgen rfl hcd ?_)
  rw [hb]
  refine wpAny_pure (wpAny_newFunctionEnv hcell (fun y hy => ?_) (fun h₁ hns hsb => ?_) hk)
  · have e : y = (x, .ref q) := by simpa using hy
    rw [e]; exact hloc
  · have hk₁ : ∀ b o, s.heap.get? b = some o → h₁.get? b = some o := fun b o e => hsb.extBut b o (Nat.ne_of_lt (Heap.lt_size e)) (Heap.get?_push_of_some _ e)
    refine ⟨lim.keeps hk₁, kla_codeExpr ?_⟩
    refine wpAny_Subscript_Constant_late ?_
    refine wpAny_Name (wpAny_loadName_local (v := .ref q) hk hloc hns (by simp) ?_) hd
    refine wpAny_Constant_int ⟨"tuple", _, slot_tuple_getitem.lookup, ?_, ?_⟩
    · obtain ⟨o, e, r⟩ := ht
      exact IsTup.typeIs ⟨o, hk₁ _ _ e, r⟩
    · obtain ⟨o, e, r⟩ := ht
      exact PyProof.Rows.getItem_tuple (⟨o, hk₁ _ _ e, r⟩ : IsTup h₁ q items) hlo hhi hj hx (h _ _ hk₁)
end
end L2.LM
namespace L2
open PySem PySem.Spec PySem.Calls PyProof.Rows
section
variable {X : Cx} {pins : List (Addr × Obj)} {σ : St} {H : Hp} {s : Shared}
/-- a table grew, its new code is known to the object -/
theorem Inv.lamNew {P c' : Addr} {ps more : Array Value} {oc : Obj} {h' : Heap} {tk : Nat} (I : Inv X pins σ H s) (hP : H P = some (.tbl ps)) (hx : Heap.ExtBut P s.heap h') (hc : s.heap.objs.size ≤ c') (hoc : h'.get? c' = some oc)
    (htb : h'.get? P = some (PySem.W.tabObj (ps ++ more))) : Inv X pins σ (upd (upd H P (.tbl (ps ++ more))) c' (.frz oc (.own 0))) { s with heap := h', toks := tk } := by
  have hn : H c' = none := I.hok.fresh hc
  have nP : ∀ b u, H b = some u → (∀ ps, u ≠ .tbl ps) → b ≠ P := fun b u e n z => by rw [z, hP] at e; cases e; exact n _ rfl
  have nP0 : ∀ b, H b = none → b ≠ P := fun b e z => by rw [z, hP] at e; cases e
  have nc : ∀ b u, H b = some u → b ≠ c' := fun b u e => ne_of_none e hn
  have up : ∀ b u, H b = some u → (∀ ps, u ≠ .tbl ps) → upd (upd H P (.tbl (ps ++ more))) c' (.frz oc (.own 0)) b = some u := fun b u e n => by rw [upd_ne (nc b u e), upd_ne (nP b u e n)]; exact e
  refine I.step (g' := s.gens) (d' := s.drawn) (ch := []) (fun _ z => nomatch z) (fun b o _ _ _ e n => hx b o (nP0 b n) e) (fun b o _ _ _ e n => ⟨o.slots, hx b o (nP0 b n) e⟩)
    (fun b o _ e n => by rw [upd_ne (Nat.ne_of_lt (Nat.lt_of_lt_of_le (Heap.lt_size e) hc)), upd_ne (nP0 b n)]; exact n) (fun b o _ e => ?_) (fun b xs e => up b _ e fun _ z => by cases z) (fun b o u e => up b _ e fun _ z => by cases z) (fun b qs e => ?_)
    (fun m hm => ?_) (fun b u e => ?_) I.bare
  · by_cases hb : b = P
    · subst hb; exact ⟨_, htb⟩
    · exact ⟨o, hx b o hb e⟩
  · by_cases hb : b = P
    · subst hb
      rw [hP] at e; cases e
      exact ⟨more, by rw [upd_ne (nc b _ hP), upd_same]⟩
    · exact ⟨#[], by rw [upd_ne (nc b _ e), upd_ne hb, e]; simp⟩
  · obtain ⟨o, es, ep, ho, r⟩ := hm
    exact ⟨o, es, ep, hx _ o (nP0 _ I.free) ho, r⟩
  · by_cases hb : b = c'
    · subst hb
      rw [upd_same] at e; cases e
      exact ⟨hoc, oc, hoc⟩
    · rw [upd_ne hb] at e
      by_cases hb2 : b = P
      · subst hb2
        rw [upd_same] at e; cases e
        exact htb
      · rw [upd_ne hb2] at e
        refine (I.hok b u e).stay (fun d v hd q => hx d v ?_ q) (fun d q => up d _ q fun _ z => by cases z) fun d xs q => up d _ q fun _ z => by cases z
        rcases hd with z | z
        · rw [z]; exact hb2
        · exact nP d _ z fun _ y => by cases y
/-- behind a rule over the base that kept all it found and laid one list more -/
theorem Inv.laidN {m : Str → Option Value} {D f : Addr} {fo : Obj} {out : Array Value} {c : Nat} {h' : Heap} {tk : Nat} {xs : List V} (I : Inv X pins σ H s) (F0 : Fr X.base X.env.locals s.heap m) (F : Fr X.base X.env.locals h' m)
    (N : News X.base X.env.locals h' ((D, seqObj "list" out c) :: allNews X.base s.heap X.env.locals)) (lt : ∀ q ∈ allNews X.base s.heap X.env.locals, q.1 < D) (hf : s.heap.objs.size = f + 1) (hfo : s.heap.get? f = some fo) (hfL : f ≠ X.env.locals) (hf0 : X.base.get? f = none)
    (va : Vals xs out.toList) (hz : xs.length ≤ sizeLine) : Inv X pins σ (upd H D (.lst xs)) { s with heap := h', toks := tk } ∧ H D = none := by
  have hD : s.heap.objs.size ≤ D := by
    have z := lt _ (mem_allNews hfL hf0 hfo)
    rw [hf]
    exact Nat.succ_le_of_lt z
  have keep : ∀ b o, b ≠ X.env.locals → s.heap.get? b = some o → h'.get? b = some o := fun b o nb e => by
    cases q : X.base.get? b with
    | some u =>
      have := I.bk b u q
      rw [e] at this; cases this
      exact F.keep b _ q
    | none => exact (N (b, o) (List.mem_cons_of_mem _ (mem_allNews nb q e))).1
  have hn : H D = none := I.hok.fresh hD
  have nL : ∀ b u, H b = some u → b ≠ X.env.locals := fun b u e => ne_of_none e I.free
  have up : ∀ b u, H b = some u → upd H D (.lst xs) b = some u := fun b u e => by rw [upd_ne (ne_of_none e hn)]; exact e
  have oD : h'.get? D = some (seqObj "list" out c) := (N _ (List.mem_cons_self ..)).1
  refine ⟨I.step (g' := s.gens) (d' := s.drawn) (ch := []) (fun _ z => nomatch z) (fun b o nb _ _ e _ => keep b o nb e) (fun b o nb _ _ e _ => ⟨o.slots, keep b o nb e⟩)
    (fun b o _ e n => by rw [upd_ne (Nat.ne_of_lt (Nat.lt_of_lt_of_le (Heap.lt_size e) hD))]; exact n) (fun b o _ e => ?_) (fun b xs e => up b _ e) (fun b o u e => up b _ e) (fun b qs e => ⟨#[], by rw [up b _ e]; simp⟩)
    (fun m' hm => ?_) (fun b u e => ?_) I.bare, hn⟩
  · by_cases hb : b = X.env.locals
    · subst hb
      obtain ⟨o', _, _, ho', _⟩ := F.ns
      exact ⟨o', ho'⟩
    · exact ⟨o, keep b o hb e⟩
  · have e1 := hm.eq_nsMap
    have e2 := F0.ns.eq_nsMap
    rw [e1, ← e2]
    exact F.ns
  · by_cases hb : b = D
    · subst hb
      rw [upd_same] at e; cases e
      refine lst_ok (its := out.toList) (e := c) va hz ?_
      rw [Array.toArray_toList]
      exact oD
    · rw [upd_ne hb] at e
      refine (I.hok b u e).stay (fun d v hd q => keep d v ?_ q) (fun d q => up d _ q) fun d xs q => up d _ q
      rcases hd with z | z
      · rw [z]; exact nL b u e
      · exact nL d _ z
end
/-- the module's code of a def whose table is tracked at P -/
structure LamB (mg : Str → Option Value) (base : Heap) (c P : Addr) : Prop where
  code : PySem.W.CodeHd base c P
  gne : mainGlobals ≠ P
  bm : base.BuiltinsAt mg P
/-- the table of a def with one lambda: empty, or it has the lambda's code -/
def LamT (H : Hp) (P : Addr) (qual : Str) (pos : Pos) : Prop := H P = some (.tbl #[]) ∨ ∃ c' oc vs t u, H P = some (.tbl #[rawInt pos.line, rawInt pos.col, .ref c']) ∧ H c' = some (.frz oc u) ∧ oc.data = .fields vs ∧ vs[1]? = some (.str qual t)
/-- all but the table stayed -/
def SameB (P : Addr) (H H' : Hp) : Prop := ∀ b o, b ≠ P → H b = some o → H' b = some o
theorem SameB.trans {P : Addr} {H H1 H2 : Hp} (a : SameB P H H1) (b : SameB P H1 H2) : SameB P H H2 := fun c o n h => b c o n (a c o n h)
theorem Same.b {P : Addr} {H H' : Hp} (s : Same H H') : SameB P H H' := fun b o _ h => s b o h
theorem LamT.keep {H H' : Hp} {P : Addr} {qual : Str} {pos : Pos} (h : LamT H P qual pos) (s : Same H H') : LamT H' P qual pos := by
  rcases h with h | ⟨c', oc, vs, t, u, h1, h2, h3, h4⟩
  · exact .inl (s _ _ h)
  · exact .inr ⟨c', oc, vs, t, u, s _ _ h1, s _ _ h2, h3, h4⟩
theorem SameB.tup {P : Addr} {H H' : Hp} {a : Addr} {xs : List V} {qual : Str} {pos : Pos} (s : SameB P H H') (l : LamT H P qual pos) (h : H a = some (.tup xs)) : H' a = some (.tup xs) := s _ _ (fun e => by
  rcases l with l | ⟨c', oc, vs, t, u, l, _⟩ <;> rw [e, l] at h <;> cases h) h
theorem SameB.lst {P : Addr} {H H' : Hp} {a : Addr} {xs : List V} {qual : Str} {pos : Pos} (s : SameB P H H') (l : LamT H P qual pos) (h : H a = some (.lst xs)) : H' a = some (.lst xs) := s _ _ (fun e => by
  rcases l with l | ⟨c', oc, vs, t, u, l, _⟩ <;> rw [e, l] at h <;> cases h) h
theorem SameB.frz {P : Addr} {H H' : Hp} {a : Addr} {o : Obj} {w : HO} {qual : Str} {pos : Pos} (s : SameB P H H') (l : LamT H P qual pos) (h : H a = some (.frz o w)) : H' a = some (.frz o w) := s _ _ (fun e => by
  rcases l with l | ⟨c', oc, vs, t, u, l, _⟩ <;> rw [e, l] at h <;> cases h) h
theorem lamT_ne {H : Hp} {P a : Addr} {qual : Str} {pos : Pos} {o : HO} (l : LamT H P qual pos) (h : H a = some o) (n : ∀ ps, o ≠ .tbl ps) : a ≠ P := fun e => by
  rcases l with l | ⟨c', oc, vs, t, u, l, _⟩ <;> rw [e, l] at h <;> cases h <;> exact n _ rfl
end L2
namespace L2
open PySem PySem.Spec PySem.Calls PyProof.Rows
/-- sorted(xs, key=lambda x: x[k]): key tells the item -/
def tSortK (K : PySem.W.Frag) (P : Addr) (qual : Str) (lpos : Pos) (k : Int) (te : TE) : TE := fun σ H Q => te σ H fun x H1 => ∃ (a : Addr) (as : List Addr) (key : Addr → Int), x = .ref a ∧ SqL K H1 a (as.map V.ref) ∧ as.length < 64 ∧ LamT H1 P qual lpos ∧
  (∀ q ∈ as, ∃ xs, H1 q = some (.tup xs) ∧ atI xs k = some (.int (key q))) ∧
  ∀ (p : Addr) (as' : List Addr) (H2 : Hp), as'.Perm as → (as'.Pairwise fun u v => key u ≤ key v) → SameB P H1 H2 → LamT H2 P qual lpos → H1 p = none → H2 p = some (.lst (as'.map V.ref)) → Q (.ref p) H2
theorem pe_sortK {X : Cx} {e : Expr} {te : TE} {p pos kp lpos p1 p2 p3 : Pos} {k : Int} {kd n : Nat} {x qual : Str} {params : Arguments} {scope : Scope} {c P : Addr} (hr : Room n X.A) (hg : Gl X "sorted") (hm : X.mg "sorted" = none) (he : PE X e te) (B : LamB X.mg X.base c P)
    (hcode : X.env.code = .ref c) (hq : X.env.qual ++ "<lambda>" = qual) (hcl : closureFor scope X.env = pure []) (hdef : defaultsOf params X.env = ([], []))
    (hb : ∀ (pm cv ctv : Value) (q : Addr), bindArgs (PySem.W.kla_fn "<lambda>" qual params (LM.lbody x k kd p1 p2 p3) scope [] pm cv ctv) ⟨[.ref q], []⟩ = pure [(x, .ref q)])
    (hk : scope.kind = .function) (hco : scope.isCoroutine = false) (hgen : scope.isGenerator = false) (hcell : ∀ x ∈ scope.names, x.2 ≠ .cell) (hloc : scope.names.lookup x = some .local) (hd : (x == ("__debug__" : Str)) = false)
    (h1 : backTo pos (starEach [e] X.env) = (false, eval e X.env) :: backTo pos (starEach [] X.env) := by rfl) (h2 : (backTo pos (starEach [e] X.env)).any (·.1) = false := by rfl) :
    PE X (.Call (.Name "sorted" p) [e] [⟨some "key", .Lambda params (LM.lbody x k kd p1 p2 p3) scope lpos, kp⟩] pos) (tSortK X.K P qual lpos k te) := by
  intro pins s σ H Q I h
  refine wpAny_Call_Name_kw (ld_blt I hg hm boot_sorted (callWith_kw ?_ h1 h2 rfl rfl))
  rw [h1]
  refine Calls.spliced_cons (thn (he pins s σ H _ I h) fun v s1 ⟨x1, H1, I1, r1, a, as, key, ex, hl, h64, lt, hkey, q⟩ => ?_)
  subst ex
  cases r1
  refine Calls.spliced_nil ?_
  -- behind the lambda
  have go : ∀ (f c' : Addr) (ctv : Value) (oc : Obj) (u : HO) (vs : Array Value) (t : Tok) (h' : Heap) (tk : Nat) (H2 : Hp), f = h'.objs.size →
      Inv X pins σ H2 { s1 with heap := h'.push (PySem.W.kla_obj "<lambda>" qual params (LM.lbody x k kd p1 p2 p3) scope [] ((X.mg "__name__").getD .none) c' ctv), toks := tk } →
      SameB P H1 H2 → H2 P = some (.tbl #[rawInt lpos.line, rawInt lpos.col, .ref c']) → H2 c' = some (.frz oc u) → oc.data = .fields vs → vs[1]? = some (.str qual t) → (∀ b, H2 b = none → H1 b = none) →
      wpAny (model X.prog X.w) X.A (call (.builtin "sorted") [.ref a] [("key", .ref f)]) (EP X pins σ Q) X.xe { s1 with heap := h'.push (PySem.W.kla_obj "<lambda>" qual params (LM.lbody x k kd p1 p2 p3) scope [] ((X.mg "__name__").getD .none) c' ctv), toks := tk } := by
    intro f c' ctv oc u vs t h' tk H2 ef I2 sb hP hc' hoc hvs hnn
    have hl2 : SqL X.K H2 a (as.map V.ref) := by
      rcases hl with hl | hl
      · rcases hl with hl | ⟨o, hl⟩
        · exact .inl (.inl (sb.lst lt hl))
        · exact .inl (.inr ⟨o, sb.frz lt hl⟩)
      · exact .inr hl
    obtain ⟨its, r', pl, hz⟩ := I2.list hl2
    obtain rfl := refs_of r'
    obtain ⟨m, F0⟩ := I2.fr
    have hsz : (h'.push (PySem.W.kla_obj "<lambda>" qual params (LM.lbody x k kd p1 p2 p3) scope [] ((X.mg "__name__").getD .none) c' ctv)).objs.size = f + 1 := by rw [size_push', ef]
    have hfo : (h'.push (PySem.W.kla_obj "<lambda>" qual params (LM.lbody x k kd p1 p2 p3) scope [] ((X.mg "__name__").getD .none) c' ctv)).get? f = some (PySem.W.kla_obj "<lambda>" qual params (LM.lbody x k kd p1 p2 p3) scope [] ((X.mg "__name__").getD .none) c' ctv) := by rw [ef]; exact Heap.get?_push_size _ rfl
    have hfL : f ≠ X.env.locals := fun z => by
      obtain ⟨o, es, ep, ho, hd', _⟩ := F0.ns
      rw [← z, hfo] at ho; cases ho; cases hd'
    have hf0 : X.base.get? f = none := by
      have z1 := I2.lt
      have z2 : X.env.locals < f + 1 := hsz ▸ z1
      exact Heap.get?_none_of_le (Nat.le_trans F0.above (Nat.le_of_lt_succ z2))
    have hrec : (h'.push (PySem.W.kla_obj "<lambda>" qual params (LM.lbody x k kd p1 p2 p3) scope [] ((X.mg "__name__").getD .none) c' ctv)).CodeRec (.ref c') qual := ⟨c', oc, vs, t, rfl, (I2.hok _ _ hc').1, hoc, hvs⟩
    refine ksk_sorted (b := false) (f := .ref f) (kz := as.map key) F0 news_all pl.isList (by simp) (by rw [List.length_map]; exact h64) (ksk_s1 _ _) (fun _ => ksk_l1 _ _) (fun _ => ksk_t1 _ _) (fun i v kk hv hkk hh tk2 own F' N' => ?_) fun D h3 tk3 out cc F' N' l1 ko => ?_
    · rw [List.getElem?_map] at hv hkk
      cases ea : as[i]? with
      | none => rw [ea] at hv; cases hv
      | some b =>
        rw [ea] at hv hkk
        cases hv
        cases hkk
        have keep : ∀ d o, d ≠ X.env.locals → (h'.push (PySem.W.kla_obj "<lambda>" qual params (LM.lbody x k kd p1 p2 p3) scope [] ((X.mg "__name__").getD .none) c' ctv)).get? d = some o → hh.get? d = some o := fun d o nd e => by
          cases w : X.base.get? d with
          | some u' =>
            have y := I2.bk d u' w
            have y' := y.symm.trans e
            cases y'
            exact F'.keep d _ w
          | none => exact (N' (d, o) (List.mem_append_left _ (mem_allNews nd w e))).1
        obtain ⟨xs, hb', hat⟩ := hkey b (List.mem_of_getElem? ea)
        have hb2 := sb.tup lt hb'
        obtain ⟨its, r2, ⟨ob, hob, rob⟩, hz2⟩ := I2.tuple (SqT.of hb2)
        obtain ⟨j, y1, y2, y3, y4, y5⟩ := atI_get hat
        obtain ⟨w, ew, rw'⟩ := r2.get y2
        obtain ⟨tw, rfl⟩ := rw'
        have hl3 := r2.length
        have hn := line63
        refine LM.lam_call (f := f) (c' := c') (q := b) (items := its.toArray) (j := j) (n := key b) (t := tw) (by have := hr.dp; show X.A.depth < _; omega) (keep _ _ hfL hfo) ⟨c', oc, vs, t, rfl, keep _ _ (ne_of_none hc' I2.free) (I2.hok _ _ hc').1, hoc, hvs⟩ (I2.mod.nolimit.keeps F'.keep) (hb _ _ _ _) hk hco hgen hcell hloc hd
          ⟨ob, keep _ _ (ne_of_none hb2 I2.free) hob, rob⟩ (by omega) (by omega) (by rw [List.size_toArray, ← hl3]; exact y1) (by simpa using ew) fun g tk4 kp => ⟨g, tk4, tw, rfl, rfl, F'.kept kp, N'.grown kp⟩
    · obtain ⟨ps, pp, po, pw⟩ := ko
      have ez : (as.map key).zip (as.map Value.ref) = as.map fun b => (key b, Value.ref b) := by
        rw [List.zip_map', ]
      rw [ez] at pp
      have hm2 : ∀ z ∈ ps, z.1 = key (adOf z.2) ∧ z.2 = .ref (adOf z.2) := fun z hz' => by
        obtain ⟨b, _, rfl⟩ := List.mem_map.mp (pp.mem_iff.mp hz')
        exact ⟨rfl, rfl⟩
      have e1 : out.toList = (ps.map fun z => adOf z.2).map Value.ref := by
        rw [po, List.map_map]
        exact List.map_congr_left fun z hz' => (hm2 z hz').2
      have pm : (ps.map fun z => adOf z.2).Perm as := by
        have y := pp.map fun z => adOf z.2
        rw [List.map_map] at y
        have e2 : ((fun z : Int × Value => adOf z.2) ∘ fun b => (key b, Value.ref b)) = id := rfl
        rw [e2, List.map_id] at y
        exact y
      have va : Vals ((ps.map fun z => adOf z.2).map V.ref) out.toList := by rw [e1]; exact vals_refs _
      obtain ⟨I3, hn3⟩ := I2.laidN (tk := tk3) F0 F' N' l1 hsz hfo hfL hf0 va (by rw [List.length_map, pm.length_eq]; exact sz1000 (by omega))
      have same : Same H2 (upd H2 D (.lst ((ps.map fun z => adOf z.2).map V.ref))) := fun b o e => by rw [upd_ne (ne_of_none e hn3)]; exact e
      refine ⟨.ref D, _, I3, rfl, q D (ps.map fun z => adOf z.2) _ pm ?_ (sb.trans same.b) (.inr ⟨c', oc, vs, t, u, same _ _ hP, same _ _ hc', hoc, hvs⟩) (hnn _ hn3) upd_same⟩
      rw [List.pairwise_map]
      refine pw.imp_of_mem fun {y z} hy hz' hle => ?_
      have hle' : y.1 ≤ z.1 := hle
      rw [(hm2 y hy).1, (hm2 z hz').1] at hle'
      exact hle'
  have bmS : s1.heap.BuiltinsAt X.mg P := by
    obtain ⟨bm, o, a1, a2, a3, a4, a5, a6⟩ := B.bm
    exact ⟨bm, o, a1, a2, a3, a4, I1.bk _ _ a5, a6⟩
  refine kws_cons (PySem.W.kla_eval hdef ?_)
  rw [hq]
  rcases lt with lt0 | ⟨c', oc, vs, t, u, hP, hc', hoc, hvs⟩
  · refine PySem.W.kla_makeFunction (mg := X.mg) hcl I1.ok.glob (I1.mod.glob.keeps I1.bk) hcode (B.code.keeps I1.bk) (show s1.heap.get? P = some (PySem.W.tabObj #[]) from I1.hok _ _ lt0) trivial rfl B.gne bmS fun c' ctv h' tk hx hge hlt hrec htb => ?_
    obtain ⟨c2, oc, vs, t, e2, hoc', hdv, hv⟩ := hrec
    cases e2
    refine kws_nil ?_
    have hcP : c' ≠ P := fun z => by
      rw [z, htb] at hoc'
      cases hoc'
      have y := I1.hok.lt lt0
      exact absurd (Nat.lt_of_lt_of_le y (z ▸ hge)) (Nat.lt_irrefl _)
    have hcn : H1 c' = none := I1.hok.fresh hge
    refine go h'.objs.size c' ctv oc (.own 0) vs t h' tk (upd (upd H1 P (.tbl (#[] ++ #[rawInt lpos.line, rawInt lpos.col, .ref c']))) c' (.frz oc (.own 0))) rfl ?_ (fun b o n e => ?_) ?_ upd_same hdv hv fun b e => ?_
    · refine I1.lamNew lt0 (fun b o n e => Heap.get?_push_of_some _ (hx b o n e)) hge (Heap.get?_push_of_some _ hoc') (Heap.get?_push_of_some _ htb)
    · rw [upd_ne (ne_of_none e hcn), upd_ne n]; exact e
    · rw [upd_ne hcP.symm, upd_same, Array.empty_append]
    · by_cases b1 : b = c'
      · rw [b1, upd_same] at e; cases e
      · rw [upd_ne b1] at e
        by_cases b2 : b = P
        · rw [b2, upd_same] at e; cases e
        · rw [upd_ne b2] at e; exact e
  · refine PySem.W.kla_makeFunctionHit (mg := X.mg) (cv := .ref c') hcl I1.ok.glob (I1.mod.glob.keeps I1.bk) hcode (B.code.keeps I1.bk) (show s1.heap.get? P = some (PySem.W.tabObj #[rawInt lpos.line, rawInt lpos.col, .ref c']) from I1.hok _ _ hP) (by simp [TriplesOk, rawInt]) (by simp [codeAmong, rawInt]) bmS fun ctv h' tk hx hge => ?_
    refine kws_nil ?_
    exact go h'.objs.size c' ctv oc u vs t h' tk H1 rfl (I1.kept (fun b o e => Heap.get?_push_of_some _ (hx b o e))) (fun _ _ _ e => e) hP hc' hoc hvs fun _ e => e
end L2

/-! ### the head of a law one of whose defs makes a lambda: the table of its codes is tracked from the start -/
namespace L2
open PySem PySem.Spec PySem.Calls PyProof.Rows
theorem law_callT {P : Program} {w : World} {K : PySem.W.Frag} {mg mb : Str → Option Value} {CX : CXT} {k : Nat} {fa a : Addr} {fd : FuncData} {x : Str} {sp : Sp} {s₁ : Shared} {vs : List Value} {ns : List Int} {c T : Addr}
    (KX : K.In s₁.heap) (hns : s₁.heap.Ns mainGlobals mg) (hb : s₁.heap.Ns builtinsNs mb) (hbb : ∀ x : Str, x ≠ "__name__" → mb x = bootBuiltins x) (hlim : s₁.heap.NoLimit) (hg : s₁.gens = #[])
    (ha : s₁.heap.get? a = some { cls := .type "list", data := .seq vs.toArray }) (hi : IntsAre vs ns) (hl : ns.length ≤ sizeLine) (hr : Room k callerA)
    (C : PySem.W.CodeHd s₁.heap c T) (hT : s₁.heap.get? T = some (PySem.W.tabObj #[])) (hnt : PySem.W.noTabs K = true) (hbm : s₁.heap.BuiltinsAt mg T) (hgT : mainGlobals ≠ T)
    (F : ∀ base : Heap, K.In base → base.Ns mainGlobals mg → LamB mg base c T → FnOk P w K mg base CX k fa fd [x] sp) (hbind : ∀ (s : Shared) (u : Value), BindsTo s fd ⟨[u], []⟩ [(x, u)])
    (hsp : ∀ H : Hp, H T = some (.tbl #[]) → SqL K H a (ns.map V.int) → sp [.ref a] H (fun v _ => v = .bl true) fun _ _ _ => False)
    (hCX : ∀ H e s', CX [] H s₁ (fun _ _ _ => False) e s' → False) :
    codeAny (model P w) callerA (.call (.ref fa) ⟨[.ref a], []⟩) (fun r s' => r = .ok (.ret (.bool true)) ∧ OldK s₁.heap s'.heap ∧ s'.os = s₁.os ∧ AllBare s'.gens) s₁ := by
  have rv := vals_ints hi
  have lenV := hi.length
  have haT : a ≠ T := fun e => by rw [e, hT] at ha; cases ha
  have hKT : K.lookup T = none := by
    cases q : K.lookup T with
    | none => rfl
    | some o =>
      have e := KX _ _ q
      rw [hT] at e
      cases e
      have h2 := List.all_eq_true.mp hnt _ (PySem.W.mem_of_lookupK q)
      exact absurd (show false = true from h2) Bool.false_ne_true
  have core : ∀ H : Hp, H T = some (.tbl #[]) → (∀ b, b ≠ T → H b = none ∨ ∃ o xs, H b = some (.frz o (.lst xs))) → SqL K H a (ns.map V.int) → HOk P w H s₁.heap → (∀ b, H b ≠ none → b = a ∨ b = T) → (H a ≠ none → K.lookup a = none) →
      codeAny (model P w) callerA (.call (.ref fa) ⟨[.ref a], []⟩) (fun r s' => r = .ok (.ret (.bool true)) ∧ OldK s₁.heap s'.heap ∧ s'.os = s₁.os ∧ AllBare s'.gens) s₁ := by
    intro H hHT hO hS hok hA hK
    have base_of : ∀ {b : Addr} {o : Obj}, s₁.heap.get? b = some o → H b = none → (hidT s₁.heap H).get? b = some o := fun e n => hidT_get e n
    have noC : ∀ {b : Addr} {o : Obj}, s₁.heap.get? b = some o → o.cls ≠ .type "list" ∨ (∀ xs n, o.data ≠ .seq xs n) → b ≠ T → H b = none := fun {b o} e d nT => by
      cases q : H b with
      | none => rfl
      | some u =>
        rcases hA b (by rw [q]; simp) with e' | e'
        · subst e'
          rw [ha] at e; cases e
          rcases d with d | d
          · exact absurd rfl d
          · exact absurd rfl (d _ _)
        · exact absurd e' nT
    have noA : ∀ {b : Addr} {o : Obj} {es : Array DictEntry} {ep : Nat}, s₁.heap.get? b = some o → o.data = .dict es ep → H b = none := fun {b o es ep} e d => by
      refine noC e (.inr fun xs n z => by rw [d] at z; cases z) fun z => ?_
      rw [z, hT] at e; cases e; cases d
    have nsK : ∀ {b : Addr} {m : Str → Option Value}, s₁.heap.Ns b m → (hidT s₁.heap H).Ns b m := fun {b m} ⟨o, es, ep, e, d, r⟩ => ⟨o, es, ep, base_of e (noA e d), d, r⟩
    have hKb : K.In (hidT s₁.heap H) := fun b o e => base_of (KX b o e) (by
      cases q : H b with
      | none => rfl
      | some u =>
        rcases hA b (by rw [q]; simp) with e' | e'
        · subst e'
          rw [hK (by rw [q]; simp)] at e; cases e
        · subst e'
          rw [hKT] at e; cases e)
    have hM : Mod K mg (hidT s₁.heap H) := ⟨hKb, nsK hns, ⟨mb, nsK hb, hbb⟩, let ⟨mc, h1, h2⟩ := hlim; ⟨mc, nsK h1, h2⟩⟩
    have hL : LamB mg (hidT s₁.heap H) c T := by
      refine ⟨?_, hgT, ?_⟩
      · obtain ⟨o, vs', file, tf, flags, tg, inF, text, tt, e1, e2, e3, e4, r1, r2, r3, r4, r5, ne⟩ := C
        exact ⟨o, vs', file, tf, flags, tg, inF, text, tt, base_of e1 (noC e1 (.inl (by rw [e2]; decide)) ne), e2, e3, e4, r1, r2, r3, r4, r5, ne⟩
      · obtain ⟨bm, o, a1, a2, a3, a4, a5, a6, a7⟩ := hbm
        exact ⟨bm, o, a1, a2, a3, a4, base_of a5 (noC a5 (.inl (by rw [a6]; decide)) a4), a6, a7⟩
    have e0 : Env0 P w K mg (hidT s₁.heap H) callerA [] s₁ H := ⟨rfl, hM, fun b o e => of_hidT e, Nat.le_of_eq (hidT_size _ _), trivial, fun b hb => absurd (show b ∈ ([] : List Addr) from hb) (by simp), hok, .of_eq hg⟩
    refine codeAny_mono ((F _ hKb (nsK hns) hL).run callerA [] s₁ H ⟨[.ref a], []⟩ [.ref a] [.ref a] _ _ hr e0 (hbind s₁ (.ref a)) (.cons rfl .nil) (hsp H hHT hS)) fun r s' h => ?_
    cases r with
    | error e => exact (hCX H e s' h).elim
    | ok fl =>
      cases fl with
      | next => exact False.elim h
      | brk => exact False.elim h
      | cont => exact False.elim h
      | ret u =>
        obtain ⟨v, H', os, bare, un, hok', r', q⟩ := h
        have q' : v = .bl true := q
        subst q'
        obtain rfl : u = Value.bool true := r'
        have keep : ∀ b o, b ≠ T → s₁.heap.get? b = some o → s'.heap.get? b = some o := fun b o nb e => by
          cases q : H b with
          | none => exact un.keep b o e q (by intro z; exact absurd (show b ∈ ([] : List Addr) from z) (by simp)) (by simp)
          | some u =>
            rcases hO b nb with z | ⟨ob, xs, z⟩
            · rw [q] at z; cases z
            · have z2 := un.frzs b ob _ z
              obtain ⟨e1, _⟩ := hok b _ z
              obtain ⟨e2, _⟩ := hok' b _ z2
              rw [e] at e1; cases e1
              exact e2
        obtain ⟨more, hm⟩ := un.tbls T #[] hHT
        have hTm : s'.heap.get? T = some (PySem.W.tabObj (#[] ++ more)) := hok' _ _ hm
        refine ⟨rfl, ⟨fun b o e => ?_, fun b o e => ?_⟩, os, bare⟩
        · by_cases nb : b = T
          · subst nb
            rw [hT] at e; cases e
            exact .inr (.inl ⟨(C.tab hT).isCodeTable, rfl, #[], more, rfl, hTm⟩)
          · exact .inl (keep b o nb e)
        · by_cases nb : b = T
          · subst nb; exact ⟨_, hTm⟩
          · exact ⟨o, keep b o nb e⟩
  cases hk : K.lookup a with
  | some o =>
    have e := KX a o hk
    rw [ha] at e
    cases e
    refine core (fun b => if b = T then some (.tbl #[]) else none) (if_pos rfl) (fun b nb => .inl (if_neg nb)) (.inr ⟨_, vs.toArray, _, hk, rfl, rfl, rfl, by rw [List.size_toArray, lenV]; exact hl, by simpa using rv⟩) (fun b u z => ?_) (fun b z => ?_) fun z => absurd (if_neg haT) z
    · by_cases nb : b = T
      · have z' := (if_pos nb).symm.trans z
        cases z'
        subst nb
        exact hT
      · have z' := (if_neg nb).symm.trans z
        cases z'
    · by_cases nb : b = T
      · exact .inr nb
      · exact absurd (if_neg nb) z
  | none =>
    refine core (fun b => if b = T then some (.tbl #[]) else if b = a then some (.frz { cls := .type "list", data := .seq vs.toArray } (.lst (ns.map V.int))) else none) (if_pos rfl) (fun b nb => ?_) (.inl (.inr ⟨{ cls := .type "list", data := .seq vs.toArray }, (if_neg haT).trans (if_pos rfl)⟩)) (fun b u z => ?_) (fun b z => ?_) fun _ => hk
    · by_cases hb : b = a
      · exact .inr ⟨_, _, (if_neg nb).trans (if_pos hb)⟩
      · exact .inl ((if_neg nb).trans (if_neg hb))
    · by_cases nb : b = T
      · have z' := (if_pos nb).symm.trans z
        cases z'
        subst nb
        exact hT
      · have z0 := (if_neg nb).symm.trans z
        by_cases hb : b = a
        · have z' := (if_pos hb).symm.trans z0
          cases z'
          subst hb
          exact ⟨ha, by rw [List.length_map]; exact hl, vs, _, rv, ha⟩
        · have z' := (if_neg hb).symm.trans z0
          cases z'
    · by_cases nb : b = T
      · exact .inr nb
      · by_cases hb : b = a
        · exact .inl hb
        · exact absurd ((if_neg nb).trans (if_neg hb)) z
theorem walk_ofT {l : PySem.W.OpenLaw} {n k : Nat} {q : Program} {loose : List Str} {XP : (Str → Option Value) → Heap → Prop} {YP : World → Heap → Prop} {d d0 : DefRec} {K : Params → PySem.W.Frag} {CX : World → CXT} {sp : World → Addr → Sp} {x x0 : Str}
    (hn : l.most = some n) (hn2 : n ≤ sizeLine) (hdf : d.params.defaults = []) (hr : Room k callerA) (hrec : (recsOf q).find? (fun e => e.name == x0) = some d0)
    (hY : ∀ (w : World) (h : Heap), YP w h → (K w.params).In h)
    (F : ∀ (w : World) (mg : Str → Option Value) (fa : Addr) (h : Heap), (K w.params).In h → h.Ns mainGlobals mg → mg d.name = some (.ref fa) →
      ∃ (fd : FuncData) (c T : Addr), PySem.W.tabIn (K w.params) x0 = some (c, T) ∧ PySem.W.noTabs (K w.params) = true ∧ (∀ (s : Shared) (u : Value), BindsTo s fd ⟨[u], []⟩ [(x, u)]) ∧
        ∀ base : Heap, (K w.params).In base → base.Ns mainGlobals mg → LamB mg base c T → FnOk l.prog w (K w.params) mg base (CX w) k fa fd [x] (sp w T))
    (hsp : ∀ (w : World) (T : Addr) (H : Hp) (a : Addr) (ns : List Int), ns.length ≤ n → H T = some (.tbl #[]) → SqL (K w.params) H a (ns.map V.int) → sp w T [.ref a] H (fun v _ => v = .bl true) fun _ _ _ => False)
    (hCX : ∀ (w : World) (H : Hp) (s : Shared) (e : Value) (s' : Shared), CX w [] H s (fun _ _ _ => False) e s' → False) :
    PySem.W.WalkO q loose XP YP l.row.toRowW d [] (fun f vs => PySem.call f vs) := by
  refine Att.attach_call hn hdf fun w s₀ s₁ mg mb fa o pm cd doc a vs ns G Y ho hd hcd hmg hobj hints hlen hg => ?_
  have KX := hY w _ Y
  obtain ⟨fd, c, T, ht, hnt, hb, hF⟩ := F w mg fa _ KX G.T.g hmg
  obtain ⟨C, hT⟩ := PySem.W.tab_of G.T KX hrec ht
  have hgT : mainGlobals ≠ T := fun z => by
    obtain ⟨o, es, ep, e, hd, _⟩ := G.T.g
    rw [z, hT] at e; cases e; cases hd
  have hbm : s₁.heap.BuiltinsAt mg T := by
    obtain ⟨bm, ob, b1, b2, b3, b4, b5, b6⟩ := G.T.bmain
    refine ⟨bm, ob, b1, b2, fun z => ?_, fun z => ?_, b3, b4, b5, b6⟩
    · obtain ⟨o, es, ep, e, hd, _⟩ := G.T.g
      rw [z, e] at b3; cases b3; rw [hd] at b6; cases b6
    · rw [z, hT] at b3; cases b3; cases b4
  exact law_callT KX G.T.g G.T.b G.T.builtins G.T.nolimit hg hobj hints (Nat.le_trans hlen hn2) hr C hT hnt hbm hgT hF hb (fun H hO hS => hsp w T H a ns hlen hO hS) fun H e s' => hCX w H s₁ e s'
/-- a def whose code is at c -/
structure FunC (K : PySem.W.Frag) (x qual : Str) (st : Stmt) (f : Addr) (fd : FuncData) (c : Addr) : Prop where
  ex : ∃ (oc : Value) (od : Option Addr) (kV doc pm : Value) (an : Option Addr) (ct : Value) (osl : Array (Option Value)),
    fd = PySem.W.fnOf x qual (defArgs st) (defBody st) (defScope st) .none kV doc pm an (.ref c) ct ∧ K.lookup f = some ⟨oc, od, .func fd, osl⟩ ∧ PySem.W.codeIn K (.ref c) qual = true
  kp : PySem.W.keepIn K (.ref f) = true
section
variable {P : Program} {w : World} {K : PySem.W.Frag} {mg : Str → Option Value} {base : Heap}
theorem FunC.ok {x qual : Str} {st : Stmt} {f c : Addr} {fd : FuncData} {N ps : List Str} {k : Nat} {sp : Sp} (F : FunC K x qual st f fd c) (S : FnScope N ps (defScope st)) (len : ∀ vs H Q E, sp vs H Q E → vs.length = ps.length)
    (hbody : ∀ (A : Around) (outer : List Env) (s : Shared) (H : Hp) (vs : List V) (Q : VK) (E : XK), Room k (A.deeper (envOfC qual (defScope st) s.heap.objs.size f (.ref c))) → sp vs H Q E →
      ∃ t, PSs (cxOf CX0 P w K mg base N qual (defScope st) f (.ref c) A outer s H E).nox (defBody st) t ∧ t { nx := fun _ H' => Q .non H', rt := Q } (start N vs) H) : FnOk P w K mg base CX0 (k + 1) f fd ps sp := by
  obtain ⟨oc, od, kV, doc, pm, an, ct, osl, rfl, lk, hcd⟩ := F.ex
  refine fn_of lk hcd S len fun A outer s H vs Q E hr hsp => ?_
  obtain ⟨t, h, q⟩ := hbody A outer s H vs Q E hr hsp
  exact ⟨t, h.nox, q⟩
end
end L2

/-! ### plans: what a paper's price says of what is left -/
namespace PM
section
variable {α β γ : Type}
def sm (f : α → Int) (l : List α) : Int := (l.map f).sum
theorem sm_nil (f : α → Int) : sm f [] = 0 := rfl
theorem sm_cons (f : α → Int) (a : α) (l : List α) : sm f (a :: l) = f a + sm f l := by simp [sm]
theorem sm_le {f g : α → Int} : ∀ {l : List α}, (∀ a ∈ l, f a ≤ g a) → sm f l ≤ sm g l
  | [], _ => Int.le_refl _
  | a :: l, h => by
    rw [sm_cons, sm_cons]
    have h1 := h a (List.mem_cons_self ..)
    have h2 := sm_le (l := l) fun b hb => h b (List.mem_cons_of_mem _ hb)
    omega
theorem sm_congr {f g : α → Int} : ∀ {l : List α}, (∀ a ∈ l, f a = g a) → sm f l = sm g l
  | [], _ => rfl
  | a :: l, h => by rw [sm_cons, sm_cons, h a (List.mem_cons_self ..), sm_congr (l := l) fun b hb => h b (List.mem_cons_of_mem _ hb)]
theorem sm_add (f g : α → Int) : ∀ l : List α, sm (fun a => f a + g a) l = sm f l + sm g l
  | [] => rfl
  | a :: l => by rw [sm_cons, sm_cons, sm_cons, sm_add f g l]; omega
theorem sm_sub (f g : α → Int) : ∀ l : List α, sm (fun a => f a - g a) l = sm f l - sm g l
  | [] => rfl
  | a :: l => by rw [sm_cons, sm_cons, sm_cons, sm_sub f g l]; omega
theorem sm_zero {f : α → Int} {l : List α} (h : ∀ a ∈ l, f a = 0) : sm f l = 0 := by
  induction l with
  | nil => rfl
  | cons a l ih => rw [sm_cons, h a (List.mem_cons_self ..), ih fun b hb => h b (List.mem_cons_of_mem _ hb)]; rfl
theorem sm_swap (f : α → γ → Int) (k : List γ) : ∀ l : List α, sm (fun a => sm (f a) k) l = sm (fun c => sm (fun a => f a c) l) k
  | [] => by rw [sm_nil]; exact (sm_zero fun _ _ => rfl).symm
  | a :: l => by
    rw [sm_cons, sm_swap f k l, ← sm_add]
    exact sm_congr fun c _ => (sm_cons (fun a => f a c) a l).symm
theorem sm_filter (p : α → Bool) (f : α → Int) : ∀ l : List α, sm f (l.filter p) = sm (fun a => if p a = true then f a else 0) l
  | [] => rfl
  | a :: l => by
    rw [List.filter_cons, sm_cons]
    by_cases h : p a = true
    · rw [if_pos h, if_pos h, sm_cons, sm_filter p f l]
    · rw [if_neg h, if_neg h, sm_filter p f l]; omega
theorem sm_nonneg {f : α → Int} {l : List α} (h : ∀ a ∈ l, 0 ≤ f a) : 0 ≤ sm f l := by
  have z := sm_le (f := fun _ => 0) (g := f) (l := l) h
  rw [sm_zero (fun _ _ => rfl)] at z
  exact z
theorem sm_perm {f : α → Int} {l k : List α} (h : l.Perm k) : sm f l = sm f k := by
  induction h with
  | nil => rfl
  | cons a _ ih => rw [sm_cons, sm_cons, ih]
  | swap a b l => rw [sm_cons, sm_cons, sm_cons, sm_cons]; omega
  | trans _ _ i1 i2 => rw [i1, i2]
end
section
variable {β : Type} [DecidableEq β]
/-- how many of a day's names are of xs -/
abbrev hv (xs : List β) (w : List β) : Int := sm (fun x => (w.count x : Int)) xs
theorem hv_cons (xs : List β) (y : β) (w : List β) : hv xs (y :: w) = hv xs w + (xs.count y : Int) := by
  have e : ∀ xs : List β, (xs.count y : Int) = sm (fun x => if y = x then 1 else 0) xs := fun xs => by
    induction xs with
    | nil => rfl
    | cons x xs ih =>
      rw [List.count_cons, sm_cons, ← ih]
      by_cases h : y = x
      · subst h; simp; omega
      · have h' : ¬ (x == y) = true := by simpa using fun z => h z.symm
        rw [if_neg h, if_neg h']; omega
  rw [e, ← sm_add]
  refine sm_congr fun x _ => ?_
  rw [List.count_cons]
  by_cases h : y = x
  · subst h; simp
  · have h' : ¬ (y == x) = true := by simpa using h
    rw [if_neg h, if_neg h']; omega
theorem nd_count {xs : List β} (nd : xs.Nodup) (y : β) : (xs.count y : Int) ≤ 1 := by
  have := List.nodup_iff_count.mp nd y
  omega
theorem hv_le {xs : List β} (nd : xs.Nodup) : ∀ w : List β, hv xs w ≤ w.length
  | [] => by rw [show hv xs [] = 0 from sm_zero fun _ _ => rfl]; exact Int.le_refl _
  | y :: w => by
    rw [hv_cons, List.length_cons]
    have h1 := hv_le nd w
    have h2 := nd_count nd y
    omega
theorem hv_eq {xs : List β} (nd : xs.Nodup) : ∀ w : List β, (∀ y ∈ w, y ∈ xs) → hv xs w = w.length
  | [], _ => sm_zero fun _ _ => rfl
  | y :: w, h => by
    rw [hv_cons, List.length_cons, hv_eq nd w fun z hz => h z (List.mem_cons_of_mem _ hz)]
    have h2 := nd_count nd y
    have h3 := List.count_pos_iff.mpr (h y (List.mem_cons_self ..))
    omega
/-- the names of xs lie within the days lo .. lo + k - 1 -/
theorem run_le {xs : List β} (nd : xs.Nodup) : ∀ (ws : List (List β)) (ns : List Int) (lo k : Nat), ws.length = ns.length → (∀ (i : Nat) w n, ws[i]? = some w → ns[i]? = some n → (w.length : Int) ≤ n) →
    (∀ (i : Nat) w, ws[i]? = some w → (i < lo ∨ lo + k ≤ i) → ∀ x ∈ xs, w.count x = 0) →
    sm (hv xs) ws ≤ ((ns.drop lo).take k).sum ∧ ((∀ (i : Nat) w n, lo ≤ i → i < lo + k → ws[i]? = some w → ns[i]? = some n → (w.length : Int) = n ∧ ∀ y ∈ w, y ∈ xs) → sm (hv xs) ws = ((ns.drop lo).take k).sum)
  | [], [], lo, k, _, _, _ => by simp [sm]
  | [], _ :: _, _, _, h, _, _ => by simp at h
  | _ :: _, [], _, _, h, _, _ => by simp at h
  | w :: ws, n :: ns, lo, k, hl, le, out => by
    have hl' : ws.length = ns.length := by simpa using hl
    have le' : ∀ (i : Nat) w' n', ws[i]? = some w' → ns[i]? = some n' → (w'.length : Int) ≤ n' := fun i w' n' h1 h2 => le (i + 1) w' n' (by simpa using h1) (by simpa using h2)
    rw [sm_cons]
    match lo, k, out with
    | lo + 1, k, out =>
      obtain ⟨i1, i2⟩ := run_le nd ws ns lo k hl' le' fun i w' h1 h2 => out (i + 1) w' (by simpa using h1) (by omega)
      have z : hv xs w = 0 := sm_zero fun x hx => by rw [out 0 w rfl (.inl (by omega)) x hx]; rfl
      rw [z, List.drop_succ_cons]
      refine ⟨by omega, fun f => ?_⟩
      rw [i2 fun i w' n' h1 h2 h3 h4 => f (i + 1) w' n' (by omega) (by omega) (by simpa using h3) (by simpa using h4)]
      omega
    | 0, 0, out =>
      obtain ⟨i1, i2⟩ := run_le nd ws ns 0 0 hl' le' fun i w' h1 h2 => out (i + 1) w' (by simpa using h1) (by omega)
      have z : hv xs w = 0 := sm_zero fun x hx => by rw [out 0 w rfl (.inr (by omega)) x hx]; rfl
      rw [z]
      simp only [List.take_zero, List.sum_nil] at i1 i2 ⊢
      refine ⟨by omega, fun f => ?_⟩
      rw [i2 fun i w' n' h1 h2 h3 h4 => absurd h2 (by omega)]
      rfl
    | 0, k + 1, out =>
      obtain ⟨i1, i2⟩ := run_le nd ws ns 0 k hl' le' fun i w' h1 h2 => out (i + 1) w' (by simpa using h1) (by omega)
      have z := hv_le nd w
      have z2 := le 0 w n rfl rfl
      simp only [List.drop_zero, List.take_succ_cons, List.sum_cons] at i1 i2 ⊢
      refine ⟨by omega, fun f => ?_⟩
      rw [i2 fun i w' n' h1 h2 h3 h4 => f (i + 1) w' n' (by omega) (by omega) (by simpa using h3) (by simpa using h4)]
      obtain ⟨f1, f2⟩ := f 0 w n (by omega) (by omega) rfl rfl
      rw [hv_eq nd w f2, f1]
end
section
variable {α β : Type} [DecidableEq β] {x : α → β} {f l m : α → Int}
def wn (f l : α → Int) (z : Int × Int) (a : α) : Bool := decide (z.1 ≤ f a) && decide (l a ≤ z.2)
theorem wn_iff {z : Int × Int} {a : α} : wn f l z a = true ↔ z.1 ≤ f a ∧ l a ≤ z.2 := by simp [wn]
def us (x : α → β) (ws : List (List β)) (a : α) : Int := sm (fun w => (w.count (x a) : Int)) ws
def tr (ns : List Int) (z : Int × Int) : Int := ((ns.drop z.1.toNat).take (z.2 + 1 - z.1).toNat).sum
/-- in at most one run -/
theorem once {ps : List (Int × Int)} {a : α} {c : Int} (pw : ps.Pairwise fun u v => u.2 + 2 ≤ v.1) (fl : f a ≤ l a) (c0 : 0 ≤ c) :
    sm (fun z => if wn f l z a = true then c else 0) ps ≤ c ∧ ((c = 0 ∨ ∃ z ∈ ps, wn f l z a = true) → sm (fun z => if wn f l z a = true then c else 0) ps = c) := by
  induction ps with
  | nil =>
    rw [sm_nil]
    refine ⟨c0, fun h => ?_⟩
    rcases h with h | ⟨z, hz, _⟩
    · exact h.symm
    · exact nomatch hz
  | cons z ps ih =>
    rw [List.pairwise_cons] at pw
    obtain ⟨i1, i2⟩ := ih pw.2
    rw [sm_cons]
    by_cases h : wn f l z a = true
    · rw [if_pos h, sm_zero fun v hv => ?_]
      · exact ⟨by omega, fun _ => by omega⟩
      · have p := pw.1 v hv
        rw [if_neg]
        intro w
        have h1 := wn_iff.mp h
        have h2 := wn_iff.mp w
        omega
    · rw [if_neg h]
      refine ⟨by omega, fun q => ?_⟩
      rw [i2 ?_]
      · omega
      · rcases q with q | ⟨v, hv, q⟩
        · exact .inl q
        · rcases List.mem_cons.mp hv with e | hv
          · subst e; exact absurd q h
          · exact .inr ⟨v, hv, q⟩
structure Pn (x : α → β) (f l m : α → Int) (as : List α) (ns : List Int) (ws : List (List β)) : Prop where
  nd : (as.map x).Nodup
  ln : ws.length = ns.length
  fl : ∀ a ∈ as, f a ≤ l a
  le : ∀ (i : Nat) w n, ws[i]? = some w → ns[i]? = some n → (w.length : Int) ≤ n
  nm : ∀ (i : Nat) w y, ws[i]? = some w → y ∈ w → ∃ a ∈ as, x a = y ∧ f a ≤ i ∧ (i : Int) ≤ l a
  um : ∀ a ∈ as, us x ws a ≤ m a
theorem inj_of : ∀ {as : List α}, (as.map x).Nodup → ∀ {a b : α}, a ∈ as → b ∈ as → x a = x b → a = b
  | [], _, _, _, h, _, _ => nomatch h
  | c :: as, nd, a, b, ha, hb, e => by
    rw [List.map_cons, List.nodup_cons] at nd
    rcases List.mem_cons.mp ha with h1 | h1 <;> rcases List.mem_cons.mp hb with h2 | h2
    · rw [h1, h2]
    · exact absurd (by rw [← h1, e]; exact List.mem_map_of_mem h2) nd.1
    · exact absurd (by rw [← h2, ← e]; exact List.mem_map_of_mem h1) nd.1
    · exact inj_of nd.2 h1 h2 e
/-- one run -/
theorem Pn.one {as : List α} {ns : List Int} {ws : List (List β)} (P : Pn x f l m as ns ws) {z : Int × Int} (z0 : 0 ≤ z.1) (z1 : z.1 ≤ z.2) :
    sm (us x ws) (as.filter (wn f l z)) ≤ tr ns z ∧ ((∀ (i : Nat) w n, z.1 ≤ i → (i : Int) ≤ z.2 → ws[i]? = some w → ns[i]? = some n → (w.length : Int) = n ∧ ∀ a ∈ as, x a ∈ w → wn f l z a = true) → sm (us x ws) (as.filter (wn f l z)) = tr ns z) := by
  have nd : ((as.filter (wn f l z)).map x).Nodup := P.nd.sublist ((List.filter_sublist).map x)
  have e : sm (us x ws) (as.filter (wn f l z)) = sm (hv ((as.filter (wn f l z)).map x)) ws := by
    have e1 := sm_swap (fun a (w : List β) => (w.count (x a) : Int)) ws (as.filter (wn f l z))
    refine e1.trans (sm_congr fun w _ => ?_)
    show sm _ _ = sm _ _
    unfold sm
    rw [List.map_map]
    rfl
  obtain ⟨r1, r2⟩ := run_le nd ws ns z.1.toNat (z.2 + 1 - z.1).toNat P.ln P.le fun i w hw ho y hy => by
    obtain ⟨a, ha, rfl⟩ := List.mem_map.mp hy
    obtain ⟨ha1, ha2⟩ := List.mem_filter.mp ha
    have ha3 := wn_iff.mp ha2
    refine List.count_eq_zero.mpr fun hm => ?_
    obtain ⟨b, hb, eb, b1, b2⟩ := P.nm i w _ hw hm
    have := inj_of P.nd hb ha1 eb
    subst this
    omega
  rw [e]
  refine ⟨r1, fun h => r2 fun i w n h1 h2 hw hn => ?_⟩
  obtain ⟨q1, q2⟩ := h i w n (by omega) (by omega) hw hn
  refine ⟨q1, fun y hy => ?_⟩
  obtain ⟨b, hb, eb, _⟩ := P.nm i w y hw hy
  subst eb
  exact List.mem_map_of_mem (List.mem_filter.mpr ⟨hb, q2 b hb hy⟩)
structure Rn (d : Int) (ps : List (Int × Int)) : Prop where
  al : ∀ z ∈ ps, 0 ≤ z.1 ∧ z.1 ≤ z.2 ∧ z.2 < d
  pw : ps.Pairwise fun u v => u.2 + 2 ≤ v.1
def pc (f l m : α → Int) (as : List α) (ns : List Int) (ps : List (Int × Int)) : Int := sm (fun z => sm m (as.filter (wn f l z)) - tr ns z) ps
theorem Pn.dual {as : List α} {ns : List Int} {ws : List (List β)} {d : Int} {ps : List (Int × Int)} (P : Pn x f l m as ns ws) (R : Rn d ps) :
    pc f l m as ns ps ≤ sm (fun a => m a - us x ws a) as := by
  have h1 : pc f l m as ns ps ≤ sm (fun z => sm (fun a => m a - us x ws a) (as.filter (wn f l z))) ps := sm_le fun z hz => by
    have r := R.al z hz
    have := (P.one r.1 r.2.1).1
    rw [sm_sub]
    omega
  refine Int.le_trans h1 ?_
  rw [sm_congr fun z _ => sm_filter (wn f l z) (fun a => m a - us x ws a) as, sm_swap (fun z a => if wn f l z a = true then m a - us x ws a else 0)]
  refine sm_le fun a ha => (once R.pw (P.fl a ha) ?_).1
  have := P.um a ha
  omega
theorem Pn.strong {as : List α} {ns : List Int} {ws : List (List β)} {d : Int} {ps : List (Int × Int)} (P : Pn x f l m as ns ws) (R : Rn d ps)
    (fu : ∀ z ∈ ps, ∀ (i : Nat) w n, z.1 ≤ i → (i : Int) ≤ z.2 → ws[i]? = some w → ns[i]? = some n → (w.length : Int) = n ∧ ∀ a ∈ as, x a ∈ w → wn f l z a = true)
    (lk : ∀ a ∈ as, us x ws a < m a → ∃ z ∈ ps, wn f l z a = true) :
    pc f l m as ns ps = sm (fun a => m a - us x ws a) as := by
  have h1 : pc f l m as ns ps = sm (fun z => sm (fun a => m a - us x ws a) (as.filter (wn f l z))) ps := sm_congr fun z hz => by
    have r := R.al z hz
    have := (P.one r.1 r.2.1).2 (fu z hz)
    rw [sm_sub]
    omega
  rw [h1, sm_congr fun z _ => sm_filter (wn f l z) (fun a => m a - us x ws a) as, sm_swap (fun z a => if wn f l z a = true then m a - us x ws a else 0)]
  refine sm_congr fun a ha => ?_
  have := P.um a ha
  refine (once R.pw (P.fl a ha) (by omega)).2 ?_
  by_cases h : us x ws a < m a
  · exact .inr (lk a ha h)
  · exact .inl (by omega)
/-- who still waits behind a day finds it full, of orders that end no later -/
def Edf (x : α → β) (f l m : α → Int) (as : List α) (ns : List Int) (ws : List (List β)) : Prop :=
  ∀ (i : Nat) w n a, ws[i]? = some w → ns[i]? = some n → a ∈ as → f a ≤ i → (i : Int) ≤ l a → us x (ws.take (i + 1)) a < m a → (w.length : Int) = n ∧ ∀ b ∈ as, x b ∈ w → l b ≤ l a
/-- the days a .. L are full, of orders that end by L -/
def Good (x : α → β) (l : α → Int) (as : List α) (ns : List Int) (ws : List (List β)) (a L : Int) : Prop :=
  ∀ (i : Nat) w n, a ≤ i → (i : Int) ≤ L → ws[i]? = some w → ns[i]? = some n → (w.length : Int) = n ∧ ∀ b ∈ as, x b ∈ w → l b ≤ L
theorem us_take (ws : List (List β)) (a : α) (i : Nat) : us x (ws.take i) a ≤ us x ws a := by
  have e : us x ws a = us x (ws.take i) a + us x (ws.drop i) a := by
    unfold us sm
    rw [← List.sum_append, ← List.map_append, List.take_append_drop]
  have : 0 ≤ us x (ws.drop i) a := sm_nonneg fun _ _ => by omega
  omega
theorem us_take_lt {ws : List (List β)} {a : α} {i e : Nat} {w : List β} (h : ws[i]? = some w) (hm : x a ∈ w) (he : e < i) : us x (ws.take (e + 1)) a < us x ws a := by
  have e1 : us x (ws.take (i + 1)) a = us x (ws.take i) a + (w.count (x a) : Int) := by
    unfold us sm
    rw [List.take_add_one, h, List.map_append, List.sum_append]
    simp
  have e2 := us_take (x := x) ws a (i + 1)
  have e3 := us_take (x := x) (ws.take i) a (e + 1)
  rw [List.take_take, Nat.min_eq_left (by omega)] at e3
  have := List.count_pos_iff.mpr hm
  omega
theorem good_base {as : List α} {ns : List Int} {ws : List (List β)} (E : Edf x f l m as ns ws) {a : α} (ha : a ∈ as) (h : us x ws a < m a) : Good x l as ns ws (f a) (l a) :=
  fun i w n h1 h2 hw hn => E i w n a hw hn ha h1 h2 (Int.lt_of_le_of_lt (us_take ws a (i + 1)) h)
theorem good_step {as : List α} {ns : List Int} {ws : List (List β)} (P : Pn x f l m as ns ws) (E : Edf x f l m as ns ws) {b : α} {a0 L : Int} (G : Good x l as ns ws a0 L) {i : Nat} {w : List β} {n : Int} (h1 : a0 ≤ i) (h2 : (i : Int) ≤ L)
    (hw : ws[i]? = some w) (hn : ns[i]? = some n) (hb : b ∈ as) (hm : x b ∈ w) : ∃ a1, a1 ≤ f b ∧ l b ≤ L ∧ Good x l as ns ws a1 L := by
  have hL := (G i w n h1 h2 hw hn).2 b hb hm
  obtain ⟨b', hb', eb, b1, b2⟩ := P.nm i w _ hw hm
  have := inj_of P.nd hb' hb eb
  subst this
  refine ⟨min a0 (f b'), Int.min_le_right .., hL, fun e w' n' e1 e2 hw' hn' => ?_⟩
  by_cases c : a0 ≤ (e : Int)
  · exact G e w' n' c e2 hw' hn'
  · have hlt := us_take_lt (x := x) (a := b') hw hm (show e < i by omega)
    have q := E e w' n' b' hw' hn' hb (by omega) (by omega) (Int.lt_of_lt_of_le hlt (P.um b' hb))
    exact ⟨q.1, fun c hc hcm => Int.le_trans (q.2 c hc hcm) hL⟩
/-- runs that cover just the days of ds -/
def Cov (ds : List Int) (ps : List (Int × Int)) : Prop := ∀ e, e ∈ ds ↔ ∃ z ∈ ps, z.1 ≤ e ∧ e ≤ z.2
theorem pw_two {ps : List (Int × Int)} (pw : ps.Pairwise fun u v => u.2 + 2 ≤ v.1) {u v : Int × Int} (hu : u ∈ ps) (hv : v ∈ ps) : u = v ∨ u.2 + 2 ≤ v.1 ∨ v.2 + 2 ≤ u.1 := by
  induction ps with
  | nil => exact nomatch hu
  | cons z ps ih =>
    rw [List.pairwise_cons] at pw
    rcases List.mem_cons.mp hu with h1 | h1 <;> rcases List.mem_cons.mp hv with h2 | h2
    · exact .inl (by rw [h1, h2])
    · exact .inr (.inl (by rw [h1]; exact pw.1 v h2))
    · exact .inr (.inr (by rw [h2]; exact pw.1 u h1))
    · exact ih pw.2 h1 h2
theorem Cov.within {ds : List Int} {ps : List (Int × Int)} {d : Int} (C : Cov ds ps) (R : Rn d ps) {u v : Int} (uv : u ≤ v) (h : ∀ e, u ≤ e → e ≤ v → e ∈ ds) : ∃ z ∈ ps, z.1 ≤ u ∧ v ≤ z.2 := by
  obtain ⟨z, hz, z1, z2⟩ := (C u).mp (h u (Int.le_refl _) uv)
  refine ⟨z, hz, z1, ?_⟩
  by_cases c : v ≤ z.2
  · exact c
  · obtain ⟨y, hy, y1, y2⟩ := (C (z.2 + 1)).mp (h _ (by omega) (by omega))
    rcases pw_two R.pw hz hy with e | e | e
    · subst e; omega
    · omega
    · omega
/-- the days are closed -/
structure Cl (x : α → β) (f l m : α → Int) (as : List α) (ns : List Int) (ws : List (List β)) (ds : List Int) : Prop where
  dn : ∀ e ∈ ds, 0 ≤ e ∧ e < ns.length
  fu : ∀ (i : Nat) w n, (i : Int) ∈ ds → ws[i]? = some w → ns[i]? = some n → (w.length : Int) = n ∧ ∀ a ∈ as, x a ∈ w → ∀ e, f a ≤ e → e ≤ l a → e ∈ ds
  lk : ∀ a ∈ as, us x ws a < m a → ∀ e, f a ≤ e → e ≤ l a → e ∈ ds
theorem Cl.price {as : List α} {ns : List Int} {ws : List (List β)} {ds : List Int} {ps : List (Int × Int)} {d : Int} (P : Pn x f l m as ns ws) (C : Cl x f l m as ns ws ds) (R : Rn d ps) (V : Cov ds ps) :
    pc f l m as ns ps = sm (fun a => m a - us x ws a) as := by
  refine P.strong R (fun z hz i w n h1 h2 hw hn => ?_) (fun a ha h => ?_)
  · obtain ⟨q1, q2⟩ := C.fu i w n ((V i).mpr ⟨z, hz, h1, h2⟩) hw hn
    refine ⟨q1, fun a ha hm => ?_⟩
    obtain ⟨y, hy, y1, y2⟩ := V.within R (P.fl a ha) (q2 a ha hm)
    obtain ⟨b, hb, eb, b1, b2⟩ := P.nm i w _ hw hm
    have := inj_of P.nd hb ha eb
    subst this
    rcases pw_two R.pw hz hy with e | e | e
    · subst e; exact wn_iff.mpr ⟨y1, y2⟩
    · omega
    · omega
  · obtain ⟨z, hz, z1, z2⟩ := V.within R (P.fl a ha) (C.lk a ha h)
    exact ⟨z, hz, wn_iff.mpr ⟨z1, z2⟩⟩
/-- the closing, under way -/
structure CI (x : α → β) (f l m : α → Int) (as : List α) (ns : List Int) (ws : List (List β)) (pd : β → Int → Prop) (wt sn : List β) (dy : List Int) : Prop where
  ok : ∀ y, y ∈ wt ∨ y ∈ sn → ∃ a ∈ as, x a = y ∧ ∃ a0 L, a0 ≤ f a ∧ l a ≤ L ∧ Good x l as ns ws a0 L
  sd : ∀ a ∈ as, x a ∈ sn → ∀ e, f a ≤ e → e ≤ l a → e ∈ dy ∨ pd (x a) e
  dn : ∀ e ∈ dy, 0 ≤ e ∧ e < ns.length
  df : ∀ (i : Nat) w n, (i : Int) ∈ dy → ws[i]? = some w → ns[i]? = some n → (w.length : Int) = n ∧ ∀ y ∈ w, y ∈ wt ∨ y ∈ sn
  lk : ∀ a ∈ as, us x ws a < m a → x a ∈ wt ∨ x a ∈ sn
  nd : dy.Nodup
variable {as : List α} {ns : List Int} {ws : List (List β)} {pd : β → Int → Prop} {wt sn : List β} {dy : List Int}
abbrev NoP : β → Int → Prop := fun _ _ => False
theorem CI.start (E : Edf x f l m as ns ws) (h1 : ∀ y ∈ wt, ∃ a ∈ as, x a = y ∧ us x ws a < m a) (h2 : ∀ a ∈ as, us x ws a < m a → x a ∈ wt) : CI x f l m as ns ws NoP wt [] [] where
  ok := fun y hy => by
    rcases hy with hy | hy
    · obtain ⟨a, ha, e, h⟩ := h1 y hy
      exact ⟨a, ha, e, f a, l a, Int.le_refl _, Int.le_refl _, good_base E ha h⟩
    · exact nomatch hy
  sd := fun a _ h => nomatch h
  dn := fun e h => nomatch h
  df := fun i w n h => nomatch h
  lk := fun a ha h => .inl (h2 a ha h)
  nd := .nil
theorem CI.done (C : CI x f l m as ns ws NoP [] sn dy) : Cl x f l m as ns ws dy where
  dn := C.dn
  fu := fun i w n h hw hn => by
    obtain ⟨q1, q2⟩ := C.df i w n h hw hn
    refine ⟨q1, fun a ha hm e e1 e2 => ?_⟩
    rcases q2 _ hm with z | z
    · exact nomatch z
    · exact (C.sd a ha z e e1 e2).resolve_right id
  lk := fun a ha h e e1 e2 => by
    rcases C.lk a ha h with z | z
    · exact nomatch z
    · exact (C.sd a ha z e e1 e2).resolve_right id
theorem mem_rot {r dy' : List β} {y z : β} (sub : ∀ v ∈ sn, v ∈ dy') (h : y ∈ r ++ [z] ∨ y ∈ sn) (hz : z ∈ dy') : y ∈ r ∨ y ∈ dy' := by
  rcases h with h | h
  · rcases List.mem_append.mp h with h | h
    · exact .inl h
    · rw [List.mem_singleton.mp h]; exact .inr hz
  · exact .inr (sub _ h)
theorem CI.seen {r : List β} {y : β} (C : CI x f l m as ns ws pd (r ++ [y]) sn dy) (h : y ∈ sn) : CI x f l m as ns ws pd r sn dy where
  ok := fun z hz => C.ok z (by rcases hz with hz | hz; exact .inl (List.mem_append_left _ hz); exact .inr hz)
  sd := C.sd
  dn := C.dn
  df := fun i w n hi hw hn => ⟨(C.df i w n hi hw hn).1, fun z hz => mem_rot (fun _ q => q) ((C.df i w n hi hw hn).2 z hz) h⟩
  lk := fun a ha q => mem_rot (fun _ q => q) (C.lk a ha q) h
  nd := C.nd
theorem CI.opened {r : List β} {y : β} {a : α} (nd : (as.map x).Nodup) (C : CI x f l m as ns ws NoP (r ++ [y]) sn dy) (ha : a ∈ as) (e : x a = y) : CI x f l m as ns ws (fun z c => z = y ∧ f a ≤ c) r (sn ++ [y]) dy where
  ok := fun z hz => C.ok z (by
    rcases hz with hz | hz
    · exact .inl (List.mem_append_left _ hz)
    · rcases List.mem_append.mp hz with hz | hz
      · exact .inr hz
      · exact .inl (List.mem_append_right _ hz))
  sd := fun b hb hs c c1 c2 => by
    rcases List.mem_append.mp hs with hs | hs
    · exact .inl ((C.sd b hb hs c c1 c2).resolve_right id)
    · have e' := List.mem_singleton.mp hs
      have := inj_of nd hb ha (e'.trans e.symm)
      subst this
      exact .inr ⟨e', c1⟩
  dn := C.dn
  df := fun i w n hi hw hn => ⟨(C.df i w n hi hw hn).1, fun z hz => mem_rot (fun _ q => List.mem_append_left _ q) ((C.df i w n hi hw hn).2 z hz) (List.mem_append_right _ (List.mem_singleton.mpr rfl))⟩
  lk := fun b hb q => mem_rot (fun _ q => List.mem_append_left _ q) (C.lk b hb q) (List.mem_append_right _ (List.mem_singleton.mpr rfl))
  nd := C.nd
theorem CI.old {y : β} {c : Int} (C : CI x f l m as ns ws (fun z e => z = y ∧ c ≤ e) wt sn dy) (h : c ∈ dy) : CI x f l m as ns ws (fun z e => z = y ∧ c + 1 ≤ e) wt sn dy :=
  ⟨C.ok, fun a ha hs e e1 e2 => by
    rcases C.sd a ha hs e e1 e2 with z | ⟨z1, z2⟩
    · exact .inl z
    · by_cases q : e = c
      · subst q; exact .inl h
      · exact .inr ⟨z1, by omega⟩, C.dn, C.df, C.lk, C.nd⟩
theorem CI.closed {y : β} {a : α} (nd : (as.map x).Nodup) (C : CI x f l m as ns ws (fun z e => z = y ∧ l a + 1 ≤ e) wt sn dy) (ha : a ∈ as) (e : x a = y) : CI x f l m as ns ws NoP wt sn dy :=
  ⟨C.ok, fun b hb hs c c1 c2 => by
    rcases C.sd b hb hs c c1 c2 with z | ⟨z1, z2⟩
    · exact .inl z
    · have := inj_of nd hb ha (z1.trans e.symm)
      subst this
      omega, C.dn, C.df, C.lk, C.nd⟩
theorem CI.newDay {y : β} {a : α} {i : Nat} {w : List β} {n : Int} (P : Pn x f l m as ns ws) (E : Edf x f l m as ns ws) (C : CI x f l m as ns ws (fun z e => z = y ∧ (i : Int) ≤ e) wt sn dy) (ha : a ∈ as) (e : x a = y) (hs : y ∈ sn) (h1 : f a ≤ i) (h2 : (i : Int) ≤ l a)
    (hw : ws[i]? = some w) (hn : ns[i]? = some n) (h : (i : Int) ∉ dy) : CI x f l m as ns ws (fun z e => z = y ∧ (i : Int) + 1 ≤ e) (wt ++ w) sn (dy ++ [(i : Int)]) := by
  obtain ⟨a', ha', e', a0, L, q1, q2, G⟩ := C.ok y (.inr hs)
  have := inj_of P.nd ha' ha (e'.trans e.symm)
  subst this
  have il : i < ns.length := (List.getElem?_eq_some_iff.mp hn).1
  exact
  { ok := fun z hz => by
      have hz' : (z ∈ wt ∨ z ∈ sn) ∨ z ∈ w := by
        rcases hz with hz | hz
        · rcases List.mem_append.mp hz with hz | hz
          · exact .inl (.inl hz)
          · exact .inr hz
        · exact .inl (.inr hz)
      rcases hz' with hz' | hz'
      · exact C.ok z hz'
      · obtain ⟨b, hb, eb, _⟩ := P.nm i w z hw hz'
        subst eb
        obtain ⟨a1, g1, g2, g3⟩ := good_step P E G (by omega) (by omega) hw hn hb hz'
        exact ⟨b, hb, rfl, a1, L, g1, g2, g3⟩
    sd := fun b hb hsb c c1 c2 => by
      rcases C.sd b hb hsb c c1 c2 with z | ⟨z1, z2⟩
      · exact .inl (List.mem_append_left _ z)
      · by_cases q : c = i
        · exact .inl (List.mem_append_right _ (by rw [q]; exact List.mem_singleton.mpr rfl))
        · exact .inr ⟨z1, by omega⟩
    dn := fun c hc => by
      rcases List.mem_append.mp hc with hc | hc
      · exact C.dn c hc
      · rw [List.mem_singleton.mp hc]; omega
    df := fun j v n' hj hv hn' => by
      rcases List.mem_append.mp hj with hj | hj
      · obtain ⟨r1, r2⟩ := C.df j v n' hj hv hn'
        exact ⟨r1, fun z hz => (r2 z hz).imp (List.mem_append_left _) id⟩
      · have ej : j = i := by have := List.mem_singleton.mp hj; omega
        subst ej
        rw [hw] at hv; cases hv
        rw [hn] at hn'; cases hn'
        exact ⟨(G j w n (by omega) (by omega) hw hn).1, fun z hz => .inl (List.mem_append_right _ hz)⟩
    lk := fun b hb q => (C.lk b hb q).imp (List.mem_append_left _) id
    nd := by
      rw [List.nodup_append]
      refine ⟨C.nd, by simp, fun u hu v hv q => ?_⟩
      rw [List.mem_singleton.mp hv] at q
      exact h (q ▸ hu) }
/-- days made to runs -/
theorem cov_new {ds : List Int} {ps : List (Int × Int)} {e d : Int} (V : Cov ds ps) (R : Rn d ps) (e0 : 0 ≤ e) (ed : e < d) (h : ∀ z ∈ ps, z.2 + 2 ≤ e) : Cov (ds ++ [e]) (ps ++ [(e, e)]) ∧ Rn d (ps ++ [(e, e)]) := by
  refine ⟨fun c => ?_, fun z hz => ?_, ?_⟩
  · rw [List.mem_append, List.mem_singleton, V c]
    constructor
    · rintro (⟨z, hz, q⟩ | rfl)
      · exact ⟨z, List.mem_append_left _ hz, q⟩
      · exact ⟨(c, c), List.mem_append_right _ (List.mem_singleton.mpr rfl), Int.le_refl _, Int.le_refl _⟩
    · rintro ⟨z, hz, q1, q2⟩
      rcases List.mem_append.mp hz with hz | hz
      · exact .inl ⟨z, hz, q1, q2⟩
      · rw [List.mem_singleton.mp hz] at q1 q2
        exact .inr (by show c = e; simp only at q1 q2; omega)
  · rcases List.mem_append.mp hz with hz | hz
    · exact R.al z hz
    · rw [List.mem_singleton.mp hz]
      exact ⟨e0, Int.le_refl _, ed⟩
  · rw [List.pairwise_append]
    refine ⟨R.pw, List.pairwise_singleton _ _, fun u hu v hv => ?_⟩
    rw [List.mem_singleton.mp hv]
    exact h u hu
theorem cov_grow {ds : List Int} {ps : List (Int × Int)} {lo e d : Int} (V : Cov ds (ps ++ [(lo, e - 1)])) (R : Rn d (ps ++ [(lo, e - 1)])) (ed : e < d) : Cov (ds ++ [e]) (ps ++ [(lo, e)]) ∧ Rn d (ps ++ [(lo, e)]) := by
  have r0 := R.al (lo, e - 1) (List.mem_append_right _ (List.mem_singleton.mpr rfl))
  simp only at r0
  have pw := R.pw
  rw [List.pairwise_append] at pw
  refine ⟨fun c => ?_, fun z hz => ?_, ?_⟩
  · rw [List.mem_append, List.mem_singleton, V c]
    constructor
    · rintro (⟨z, hz, q1, q2⟩ | rfl)
      · rcases List.mem_append.mp hz with hz | hz
        · exact ⟨z, List.mem_append_left _ hz, q1, q2⟩
        · rw [List.mem_singleton.mp hz] at q1 q2
          simp only at q1 q2
          exact ⟨(lo, e), List.mem_append_right _ (List.mem_singleton.mpr rfl), q1, by show c ≤ e; omega⟩
      · exact ⟨(lo, c), List.mem_append_right _ (List.mem_singleton.mpr rfl), by show lo ≤ c; omega, Int.le_refl _⟩
    · rintro ⟨z, hz, q1, q2⟩
      rcases List.mem_append.mp hz with hz | hz
      · exact .inl ⟨z, List.mem_append_left _ hz, q1, q2⟩
      · rw [List.mem_singleton.mp hz] at q1 q2
        simp only at q1 q2
        by_cases q : c = e
        · exact .inr q
        · exact .inl ⟨(lo, e - 1), List.mem_append_right _ (List.mem_singleton.mpr rfl), q1, by show c ≤ e - 1; omega⟩
  · rcases List.mem_append.mp hz with hz | hz
    · exact R.al z (List.mem_append_left _ hz)
    · rw [List.mem_singleton.mp hz]
      exact ⟨r0.1, by show lo ≤ e; omega, ed⟩
  · rw [List.pairwise_append]
    refine ⟨pw.1, List.pairwise_singleton _ _, fun u hu v hv => ?_⟩
    rw [List.mem_singleton.mp hv]
    exact pw.2.2 u hu (lo, e - 1) (List.mem_singleton.mpr rfl)
end
end PM

/-! ### plans: another turn, another order -/
namespace PM
theorem cut_set : ∀ (ns : List Int) (i lo k : Nat) (v n : Int), ns[i]? = some n → (((ns.set i v).drop lo).take k).sum = ((ns.drop lo).take k).sum + if lo ≤ i ∧ i < lo + k then v - n else 0
  | [], i, _, _, _, _, h => by simp at h
  | x :: ns, 0, 0, 0, v, n, h => by simp
  | x :: ns, 0, 0, k + 1, v, n, h => by
    simp at h
    subst h
    rw [if_pos ⟨by omega, by omega⟩]
    simp only [List.set_cons_zero, List.drop_zero, List.take_succ_cons, List.sum_cons]
    omega
  | x :: ns, 0, lo + 1, k, v, n, h => by
    rw [if_neg (by omega)]
    simp
  | x :: ns, i + 1, 0, 0, v, n, h => by simp
  | x :: ns, i + 1, 0, k + 1, v, n, h => by
    have ih := cut_set ns i 0 k v n (by simpa using h)
    simp only [List.drop_zero] at ih
    simp only [List.set_cons_succ, List.drop_zero, List.take_succ_cons, List.sum_cons]
    rw [ih]
    by_cases c : i < k
    · rw [if_pos ⟨by omega, by omega⟩, if_pos ⟨by omega, by omega⟩]; omega
    · rw [if_neg (by omega), if_neg (by omega)]; omega
  | x :: ns, i + 1, lo + 1, k, v, n, h => by
    have ih := cut_set ns i lo k v n (by simpa using h)
    simp only [List.set_cons_succ, List.drop_succ_cons]
    rw [ih]
    by_cases c : lo ≤ i ∧ i < lo + k
    · rw [if_pos c, if_pos ⟨by omega, by omega⟩]
    · rw [if_neg c, if_neg (by omega)]
section
variable {α : Type} {f l m : α → Int}
theorem tr_set {ns : List Int} {i : Nat} {n v : Int} (h : ns[i]? = some n) {z : Int × Int} (z0 : 0 ≤ z.1) (z1 : z.1 ≤ z.2) : tr (ns.set i v) z = tr ns z + if wn (fun _ : Unit => (i : Int)) (fun _ => (i : Int)) z () = true then v - n else 0 := by
  unfold tr
  rw [cut_set ns i _ _ v n h]
  congr 1
  have w : wn (fun _ : Unit => (i : Int)) (fun _ => (i : Int)) z () = true ↔ z.1 ≤ (i : Int) ∧ (i : Int) ≤ z.2 := wn_iff
  by_cases c : z.1 ≤ (i : Int) ∧ (i : Int) ≤ z.2
  · rw [if_pos (w.mpr c), if_pos (by omega)]
  · rw [if_neg (fun q => c (w.mp q)), if_neg (by omega)]
theorem pc_set {ns : List Int} {i : Nat} {n v d : Int} {as : List α} {ps : List (Int × Int)} (h : ns[i]? = some n) (le : n ≤ v) (R : Rn d ps) : pc f l m as (ns.set i v) ps ≤ pc f l m as ns ps ∧ pc f l m as ns ps - (v - n) ≤ pc f l m as (ns.set i v) ps := by
  have e : pc f l m as (ns.set i v) ps = pc f l m as ns ps - sm (fun z => if wn (fun _ : Unit => (i : Int)) (fun _ => (i : Int)) z () = true then v - n else 0) ps := by
    unfold pc
    rw [← sm_sub]
    refine sm_congr fun z hz => ?_
    have r := R.al z hz
    rw [tr_set h r.1 r.2.1]
    omega
  have o := (once (f := fun _ : Unit => (i : Int)) (l := fun _ => (i : Int)) (a := ()) (c := v - n) R.pw (Int.le_refl _) (by omega)).1
  have p : 0 ≤ sm (fun z => if wn (fun _ : Unit => (i : Int)) (fun _ => (i : Int)) z () = true then v - n else 0) ps := sm_nonneg fun z _ => by
    split <;> omega
  rw [e]
  omega
theorem pc_perm {as as' : List α} {ns : List Int} {ps : List (Int × Int)} (p : as.Perm as') : pc f l m as ns ps = pc f l m as' ns ps := sm_congr fun z _ => by
  rw [sm_filter, sm_filter, sm_perm p]
theorem pc_cons {a : α} {as : List α} {ns : List Int} {ps : List (Int × Int)} {d : Int} (R : Rn d ps) (fl : f a ≤ l a) (m0 : 0 ≤ m a) : pc f l m as ns ps ≤ pc f l m (a :: as) ns ps ∧ pc f l m (a :: as) ns ps ≤ pc f l m as ns ps + m a := by
  have e : pc f l m (a :: as) ns ps = pc f l m as ns ps + sm (fun z => if wn f l z a = true then m a else 0) ps := by
    unfold pc
    rw [← sm_add]
    refine sm_congr fun z _ => ?_
    rw [sm_filter, sm_filter, sm_cons]
    omega
  have o := (once (f := f) (l := l) (a := a) (c := m a) R.pw fl m0).1
  have p : 0 ≤ sm (fun z => if wn f l z a = true then m a else 0) ps := sm_nonneg fun z _ => by
    split <;> omega
  rw [e]
  omega
end
section
variable {α β : Type} [DecidableEq β] {x : α → β} {f l m : α → Int}
/-- what planned leaves, as a number -/
structure Mn (x : α → β) (f l m : α → Int) (as : List α) (ns : List Int) (n : Int) : Prop where
  n0 : 0 ≤ n
  up : ∃ ps, Rn (ns.length : Int) ps ∧ pc f l m as ns ps = n
  du : ∀ d ps, Rn d ps → pc f l m as ns ps ≤ n
  wt : ∃ ws : List (List β), Pn x f l m as ns ws ∧ n = sm (fun a => m a - us x ws a) as
theorem Mn.more {as : List α} {ns : List Int} {i : Nat} {n v k k' : Int} (M : Mn x f l m as ns k) (M' : Mn x f l m as (ns.set i v) k') (h : ns[i]? = some n) (le : n ≤ v) : k - (v - n) ≤ k' ∧ k' ≤ k := by
  obtain ⟨ps, R, e⟩ := M.up
  obtain ⟨ps', R', e'⟩ := M'.up
  have h1 := M.du _ ps' R'
  have h2 := M'.du _ ps R
  have h3 := (pc_set (f := f) (l := l) (m := m) (as := as) h le R).2
  have h4 := (pc_set (f := f) (l := l) (m := m) (as := as) h le R').1
  omega
theorem Mn.perm {as as' : List α} {ns : List Int} {k k' : Int} (M : Mn x f l m as ns k) (M' : Mn x f l m as' ns k') (p : as.Perm as') : k' = k := by
  obtain ⟨ps, R, e⟩ := M.up
  obtain ⟨ps', R', e'⟩ := M'.up
  have h1 := M.du _ ps' R'
  have h2 := M'.du _ ps R
  rw [pc_perm p] at h1 e
  omega
theorem Mn.fewer {a : α} {as as' : List α} {ns : List Int} {k k' : Int} (M : Mn x f l m as ns k) (M' : Mn x f l m as' ns k') (p : as.Perm (a :: as')) (fl : f a ≤ l a) (m0 : 0 ≤ m a) : k - m a ≤ k' ∧ k' ≤ k := by
  obtain ⟨ps, R, e⟩ := M.up
  obtain ⟨ps', R', e'⟩ := M'.up
  have h1 := M.du _ ps' R'
  have h2 := M'.du _ ps R
  rw [pc_perm p] at h1 e
  have h3 := (pc_cons (as := as') (ns := ns) R fl m0).2
  have h4 := (pc_cons (as := as') (ns := ns) R' fl m0).1
  omega
theorem Mn.none {as : List α} {ns : List Int} {k : Int} (M : Mn x f l m as ns k) (h : ∀ n ∈ ns, n = 0) : k = sm m as := by
  obtain ⟨ws, P, e⟩ := M.wt
  rw [e]
  refine sm_congr fun a _ => ?_
  have z : us x ws a = 0 := sm_zero fun w hw => by
    obtain ⟨i, hi⟩ := List.mem_iff_getElem?.mp hw
    obtain ⟨n, hn⟩ : ∃ n, ns[i]? = some n := ⟨_, List.getElem?_eq_getElem (by have := (List.getElem?_eq_some_iff.mp hi).1; have := P.ln; omega)⟩
    have l0 := P.le i w n hi hn
    rw [h n (List.mem_of_getElem? hn)] at l0
    have : w = [] := List.length_eq_zero_iff.mp (by omega)
    rw [this]
    rfl
  omega
end
end PM

namespace L2
open PySem PySem.Spec PyProof.Rows PySem.W
/-! ### try, with the names kept -/
/-- an exception of a callee that is called while the names are σ -/
def PassesAt (CX : CXT) (X : Cx) (σ : St) (E : XK) : Prop := ∀ (pins : List (Addr × Obj)) (H : Hp) (s : Shared) (e : Value) (s' : Shared), Inv X pins σ H s → CX X.stack H s E e s' → X.xe e s'
section
variable {X : Cx}
/-- as tTry, of a body that changes no name: the others stay -/
def tTryS (K : Frag) (i j : Nat) (Dc : Addr) (tb : St → XK → TS) : TS := fun D σ H => tb σ (fun cls dd H' => ∃ C, cls = .ref C ∧ ExK K C ∧ subIn K (.ref C) (.ref Dc) = some true ∧ ∀ a, H' a = none → D.nx (((σ.set i (some (.ref a))).set j (some (.ref a))).set i none) (upd H' a (excD a C dd))) D σ H
end
end L2
namespace L2
open PySem PySem.Spec PyProof.Rows
variable {X : Cx}
/-! ### a dict that is held still, read -/
def rSortDSR : List V → Hp → VK → Prop := fun xs H Q => ∃ a kvs, ∃ ss : List Str, xs = [.ref a] ∧ Rd H a (.dK kvs) ∧ kvs.map (·.1) = ss.map Sum.inr ∧ kvs.length < 64 ∧ ∀ (p : Addr) (ss' : List Str), ss'.Perm ss → sortedS ss' = true → H p = none → Q (.ref p) (upd H p (.lst (ss'.map V.str)))
def tListValsR (td : TE) : TE := fun σ H Q => td σ H fun x H1 => ∃ a kvs, x = .ref a ∧ Rd H1 a (.dK kvs) ∧ ∀ p, H1 p = none → Q (.ref p) (upd H1 p (.lst (kvs.map (·.2))))
end L2

namespace L2
open PySem PySem.Spec PyProof.Rows
/-! ### a op1 b op2 c op3 d -/
section
variable {X : Cx} {a b c d : Expr} {ta tb tc td : TE} {pos : Pos}
def tChain3 (r r' r'' : R2) (ta tb tc td : TE) : TE := fun σ H Q => ta σ H fun x H1 => tb σ H1 fun y H2 => r x y H2 fun z H3 => ∃ k, z = .bl k ∧
  (if k = true then tc σ H3 fun w' H4 => r' y w' H4 fun z' H5 => ∃ k', z' = .bl k' ∧ (if k' = true then td σ H5 fun w'' H6 => r'' w' w'' H6 Q else Q (.bl false) H5) else Q (.bl false) H3)
end
end L2

/-! ### lists of lists: copies, comprehensions of lists, ==; methods within a comprehension -/
namespace L2
open PySem PySem.Spec PyProof.Rows
theorem call_list_ofK {X : Cx} {K : PySem.W.Frag} (h : X.K = K) : CallR X (.type "list") (fun xs H Q => ∃ p ys, xs = [.ref p] ∧ (SqL K H p ys ∨ SqT K H p ys) ∧ ∀ l, H l = none → Q (.ref l) (upd H l (.lst ys))) := h ▸ call_list_of
theorem pe_bmK {X : Cx} {K : PySem.W.Frag} {o e : Expr} {es : List Expr} {to : TE} {t : TA} {name : Str} {apos cpos : Pos} {T id : String} {r : V → List V → Hp → VK → Prop} (hK : X.K = K) (pa : PlainAttrs T) (slot : Slot T name id) (hty : typeOf (.builtin id) = pure (.type "method_descriptor")) (hm : MtR X id r) (ho : PE X o to) (ha : PA X (e :: es) t)
    (hbase : attributeBase o name X.env (eval o X.env) = eval o X.env := by rfl)
    (hfew : ((backTo cpos (starEach (e :: es) X.env)).all (fun x => !x.1) && (backToKw cpos (keywordEach [] X.env)).all (fun x => x.1.isSome)
      && decide ((e :: es).length + ([] : List Keyword).length + (if ([] : List Keyword).isEmpty then 0 else 1) < 30)) = true := by rfl)
    (hline : (apos.endLine == cpos.line) = true := by rfl) (hs : starEach (e :: es) X.env = (false, eval e X.env) :: starEach es X.env := by rfl) (hplain : (backTo cpos (starEach es X.env)).any (·.1) = false := by rfl) :
    PE X (.Call (.Attribute o name apos) (e :: es) [] cpos) (tBM K T r to t) := hK ▸ pe_bm pa slot hty hm ho ha hbase hfew hline hs hplain
end L2

namespace L2
open PySem PySem.Spec PyProof.Rows
/-! ### the statements of a def under names: what follows stays small -/
section
variable {D : Ends} {σ : L2.St} {H : Hp}
theorem cut11 {t1 t2 t3 t4 t5 t6 t7 t8 t9 t10 t11 : TS} (h : let u11 : TS := t11; let u10 : TS := tSeq t10 u11; let u9 : TS := tSeq t9 u10; let u8 : TS := tSeq t8 u9; let u7 : TS := tSeq t7 u8; let u6 : TS := tSeq t6 u7; let u5 : TS := tSeq t5 u6; let u4 : TS := tSeq t4 u5; let u3 : TS := tSeq t3 u4; let u2 : TS := tSeq t2 u3; tSeq t1 u2 D σ H) : (tSeq t1 (tSeq t2 (tSeq t3 (tSeq t4 (tSeq t5 (tSeq t6 (tSeq t7 (tSeq t8 (tSeq t9 (tSeq t10 (t11))))))))))) D σ H := h
/-- the names' values told anew -/
theorem st {u : TS} (τ : L2.St) (e : σ = τ) (h : u D τ H) : u D σ H := e ▸ h
end
end L2

namespace L2
open PySem PySem.Spec PyProof.Rows PySem.W
section
variable {X : Cx}
end
end L2
namespace TM
open PySem PySem.Spec PyProof.Rows PySem.W
/-- the letter j places on, round the 26 -/
def rd (c j : Nat) : Nat := 97 + (c - 97 + j) % 26
abbrev LET : Str := "abcdefghijklmnopqrstuvwxyz"
theorem at_let {j : Nat} (h : j < 26) : (cps LET)[j]? = some (97 + j) := by
  have all : ∀ k : Fin 26, (cps LET)[k.val]? = some (97 + k.val) := by decide +kernel
  exact all ⟨j, h⟩
end TM

namespace GM
/-- t over b, in lowest terms, is N over M -/
structure Fr (M t b N : Int) : Prop where
  am : Amt t b
  e : t * M = N * b
end GM

namespace K86
open PySem PySem.Spec PyProof.Rows L2 GM TM
def top (i : Nat) : Stmt := PySem.Challenge.pw_phialhouse_k86_whole_more_turns.main.body.getD i (.Pass ⟨0, 0, 0, 0⟩)
abbrev sLeftBy : Stmt := top 1
abbrev sPlanned : Stmt := top 3
abbrev sPlanOf : Stmt := top 4
abbrev sCrowd : Stmt := top 5
abbrev sDaysOf : Stmt := top 6
abbrev sPaperOf : Stmt := top 7
abbrev sCell : Stmt := top 9
abbrev sWhole : Stmt := top 10
abbrev sMixed : Stmt := top 11
abbrev sOrders : Stmt := top 12
abbrev sNames : Stmt := top 13
abbrev sTurns : Stmt := top 14
abbrev sMany : Stmt := top 15
abbrev sMore : Stmt := top 16
abbrev sFewer : Stmt := top 17
abbrev sWord : Stmt := top 18
abbrev sOrdBy : Stmt := top 19
abbrev sTurnsBy : Stmt := top 20
abbrev sLaw : Stmt := top 21
structure Txt (mg : Str → Option Value) : Prop where
  isi : mg "isinstance" = none
  int' : mg "int" = none
  bool' : mg "bool" = none
  tup' : mg "tuple" = none
  len : mg "len" = none
  range : mg "range" = none
  min' : mg "min" = none
  abs' : mg "abs" = none
  list' : mg "list" = none
  sum' : mg "sum" = none
  sorted' : mg "sorted" = none
  enum' : mg "enumerate" = none
def spCell (K : PySem.W.Frag) : Sp := fun vs H Q _ => ∃ (a : Addr) (ns : List Int) (k : Int), vs = [.ref a, .int k] ∧ SqL K H a (ns.map V.int) ∧ 0 ≤ k ∧ ∀ c : Int, Q (.int c) H
structure Wr (x : Str) : Prop where
  l1 : 1 ≤ x.length
  l8 : x.length ≤ 8
  lt : ∀ c ∈ cps x, 97 ≤ c ∧ c ≤ 122
def InB (d f l m : Int) : Prop := 0 ≤ f ∧ f ≤ l ∧ l < d ∧ 1 ≤ m ∧ m ≤ 50
instance (d f l m : Int) : Decidable (InB d f l m) := by unfold InB; infer_instance
inductive Nv : V → Bool → Prop where
  | int {n} : Nv (.int n) true
  | bl {b} : Nv (.bl b) false
  | non : Nv .non false
  | str {x} : Nv (.str x) false
def spWh : Sp := fun vs H Q _ => ∃ v b, vs = [v] ∧ Nv v b ∧ Q (.bl b) H
def spMixed : Sp := fun vs H Q _ => ∃ c k : Int, vs = [.int c, .int k] ∧ 0 ≤ k ∧ k ≤ 1000 ∧ ∀ n : Int, 0 ≤ n → n < 2147483587 → Q (.int n) H
section
variable {P : Program} {w : World} {K : PySem.W.Frag} {mg : Str → Option Value} {base : Heap}
theorem b6 {n : Nat} {x : Int} (h : Bt n x) (hn : n ≤ 1000000 := by decide) : Bt 1000000 x := h.mono hn
theorem bt_lt (n : Nat) {x c : Int} (h0 : 0 ≤ x) (h : x < c) (hc : c ≤ ((2 ^ n : Nat) : Int) := by decide +kernel) : Bt n x := by
  show x.natAbs < 2 ^ n
  omega
theorem emod_in (x : Int) {m : Int} (h : 0 < m) : 0 ≤ x % m ∧ x % m < m := ⟨Int.emod_nonneg x (by omega), Int.emod_lt_of_pos x h⟩
theorem bt_int : bootBuiltins "int" = some (.type "int") := by decide +kernel
theorem bt_bool : bootBuiltins "bool" = some (.type "bool") := by decide +kernel
theorem bl {c : Int} (h0 : 0 ≤ c := by decide) (h : c < 18446744073709551616 := by decide) : Bt 1000000 c := b6 (bt_lt 64 h0 h)
theorem scCell : FnScope ["_law_script", "_law_k"] ["_law_script", "_law_k"] (defScope sCell) := ⟨rfl, rfl, rfl, by decide +kernel, rfl, by decide +kernel, by decide +kernel⟩
theorem ok_cell {f : Addr} {fd : FuncData} (F : Fun K "_law_cell_at" "_law_cell_at" sCell f fd) (T : Txt mg) : FnOk P w K mg base CX0 1 f fd ["_law_script", "_law_k"] (spCell K) := by
  refine F.ok scCell (fun vs H Q E h => ?_) (fun cdv A outer s H vs Q E hr h => ?_)
  · obtain ⟨_, _, _, rfl, _⟩ := h
    rfl
  · obtain ⟨a, ns, j, rfl, hS, h0, k⟩ := h
    refine ⟨_, (pss_cons (ps_if (pt_cmpR op_lt (pv 1) (pe_callB call_len_seq rfl T.len PySem.boot_len (pa_cons (pv 0) pa_nil)) (nomark _))
        (pss_one (ps_ret (pe_ix ix_list (pv 0) (pv 1) (fun _ _ => rfl))))
        pss_nil)
      (pss_one (ps_ret pe_int))), ?_⟩
    refine ⟨_, rfl, _, rfl, a, _, rfl, .inl hS, _, _, rfl, rfl, _, rfl, ite2 (fun hc => ?_) (fun _ => k _)⟩
    have hc' : j < ((ns.map V.int).length : Int) := of_decide_eq_true hc
    rw [List.length_map] at hc'
    obtain ⟨i, rfl⟩ := Int.eq_ofNat_of_zero_le h0
    obtain ⟨c, hc⟩ : ∃ c, ns[i]? = some c := ⟨_, List.getElem?_eq_getElem (show i < ns.length by omega)⟩
    exact ⟨_, rfl, _, rfl, a, _, (i : Int), .int c, rfl, rfl, hS, atI_nat (by rw [List.getElem?_map, hc]; rfl), k c⟩
theorem bt_abs : bootBuiltins "abs" = some (.builtin "abs") := by decide +kernel
theorem lenC (x : Str) : x.length = (cps x).length := by simp [Str.length, cps]
theorem lenA (x y : Str) : (x ++ y).length = x.length + y.length := by rw [lenC, cps_append', List.length_append, ← lenC, ← lenC]
theorem in_strs {x : Str} {ws : List Str} : inV (.str x) (ws.map V.str) = true ↔ x ∈ ws := by
  unfold inV
  rw [List.any_map, List.any_eq_true]
  constructor
  · rintro ⟨y, hy, e⟩
    have : y = x := by simpa [eqV] using e
    exact this ▸ hy
  · intro h
    exact ⟨x, h, by simp [eqV]⟩
theorem flat_strs (ws : List Str) : (ws.map V.str).all flatV = true := by
  rw [List.all_map, List.all_eq_true]
  intro x _
  rfl
theorem nodup_snoc {ws : List Str} {x : Str} (h : ws.Nodup) (n : x ∉ ws) : (ws ++ [x]).Nodup := by
  rw [List.nodup_append]
  refine ⟨h, by simp, fun y hy z hz e => ?_⟩
  rw [List.mem_singleton.mp hz] at e
  exact n (e ▸ hy)
theorem clOk_plain {X : Cx} {scope : Scope} (h : ∀ y ∈ scope.names, y.2 = .local ∨ y.2 = .globalImplicit) : ClOk X scope [] := by
  refine ⟨closureFor_none fun x hx z => ?_, fun x c e => by simp at e, fun x e => ?_⟩
  · rcases h x hx with q | q <;> rw [q] at z <;> cases z
  · exfalso
    have e' : ∃ k, (k = NameKind.cell ∨ k = NameKind.free) ∧ (relabel scope X.env).names.lookup x = some k := by
      rcases e with e | e
      · exact ⟨_, .inl rfl, e⟩
      · exact ⟨_, .inr rfl, e⟩
    obtain ⟨k, hk, e⟩ := e'
    have hm := PySem.mem_of_lookup e
    obtain ⟨y, hy, hy2⟩ := List.mem_map.mp hm
    have hl := h y hy
    obtain ⟨n, kk⟩ := y
    simp only at hl
    rcases hl with hl | hl <;> subst hl <;> simp at hy2 <;> rcases hk with rfl | rfl <;> exact absurd hy2.2 (by decide)
theorem list_eq {α : Type} {ys l : List α} (hl : ys.length = l.length) (h : ∀ (i : Nat) x y, l[i]? = some x → ys[i]? = some y → y = x) : ys = l := by
  refine List.ext_getElem? fun i => ?_
  by_cases hi : i < l.length
  · have e1 := List.getElem?_eq_getElem hi
    have e2 : ys[i]? = some (ys[i]'(by omega)) := List.getElem?_eq_getElem (by omega)
    rw [e1, e2, h i _ _ e1 e2]
  · rw [List.getElem?_eq_none (by omega), List.getElem?_eq_none (by omega)]
theorem b9 {c : Int} (h0 : 0 ≤ c := by decide) (h : c < 18446744073709551616 := by decide) : Bt 9000 c := (bt_lt 64 h0 h).mono (by decide)
theorem if_key {A : Prop} {u : TS} {D : Ends} {σ : L2.St} {H : Hp} {b : Bool} (S : L2.St → Hp → Prop) (h1 : (∀ σ' H', S σ' H' → u D σ' H') → b = true → A) (h2 : ¬ b = true → S σ H) (h : ∀ σ' H', S σ' H' → u D σ' H') : if b = true then A else tNext { D with nx := u D } σ H := by
  by_cases e : b = true
  · rw [if_pos e]
    exact h1 h e
  · rw [if_neg e]
    exact h σ H (h2 e)
theorem same_own {H H' : Hp} {p : Addr} {o : HO} (s : Same H H') (n : H p = none) : Same H (upd H' p o) := fun b u e => by
  rw [upd_ne (fun z => by rw [z, n] at e; cases e)]
  exact s _ _ e
theorem same_none {H H' : Hp} {p : Addr} (s : Same H H') (n : H' p = none) : H p = none := by
  cases e : H p with
  | none => rfl
  | some o =>
    have := s _ _ e
    rw [n] at this
    cases this
theorem scWhole : FnScope ["_law_found"] ["_law_found"] (defScope sWhole) := ⟨rfl, rfl, rfl, by decide +kernel, rfl, by decide +kernel, by decide +kernel⟩
theorem ok_whole {f : Addr} {fd : FuncData} (F : Fun K "_law_whole" "_law_whole" sWhole f fd) (T : Txt mg) : FnOk P w K mg base CX0 1 f fd ["_law_found"] spWh := by
  refine F.ok scWhole (fun vs H Q E h => ?_) (fun cdv A outer s H vs Q E hr h => ?_)
  · obtain ⟨_, _, rfl, _⟩ := h
    rfl
  · obtain ⟨v, β, rfl, h, k⟩ := h
    refine ⟨_, pss_one (ps_ret (pe_and (pe_callB call_isi rfl T.isi boot_isinstance (pa_cons (pv 0) (pa_cons (pe_bltn (v := .ty "int") rfl T.int' bt_int rfl) pa_nil)))
      (pe_one (pe_not (pe_callB call_isi rfl T.isi boot_isinstance (pa_cons (pv 0) (pa_cons (pe_bltn (v := .ty "bool") rfl T.bool' bt_bool rfl) pa_nil))))))), ?_⟩
    cases h with
    | int => exact ⟨_, rfl, _, "int", true, rfl, .int_int, _, rfl, iteT ⟨_, rfl, _, "bool", false, rfl, .int_bool, _, rfl, k⟩⟩
    | bl => exact ⟨_, rfl, _, "int", true, rfl, .bl_int, _, rfl, iteT ⟨_, rfl, _, "bool", true, rfl, .bl_bool, _, rfl, k⟩⟩
    | non => exact ⟨_, rfl, _, "int", false, rfl, .non_int, _, rfl, iteF k⟩
    | str => exact ⟨_, rfl, _, "int", false, rfl, .str_int, _, rfl, iteF k⟩
theorem scMixed : FnScope ["_law_cell", "_law_k"] ["_law_cell", "_law_k"] (defScope sMixed) := ⟨rfl, rfl, rfl, by decide +kernel, rfl, by decide +kernel, by decide +kernel⟩
theorem ok_mixed {f : Addr} {fd : FuncData} (F : Fun K "_law_mixed" "_law_mixed" sMixed f fd) : FnOk P w K mg base CX0 1 f fd ["_law_cell", "_law_k"] spMixed := by
  refine F.ok scMixed (fun vs H Q E h => ?_) (fun cdv A outer s H vs Q E hr h => ?_)
  · obtain ⟨_, _, rfl, _⟩ := h
    rfl
  · obtain ⟨c, k, rfl, k0, k1, q⟩ := h
    refine ⟨_, pss_one (ps_ret (pe_op op_mod (pe_op op_mulB (pe_op op_add (pe_op op_mod (pv 0) pe_int) pe_int) (pe_op op_add pe_int (pe_op op_mulB (pe_op op_mulB pe_int (pv 1)) (pv 1)))) pe_int)), ?_⟩
    have c1 := emod_in c (m := 2147483647) (by decide)
    have bk1 : Bt 32 k := bt_lt 32 (c := 1001) k0 (by omega)
    have b2 : Bt 34 (2 * k) := (bt_lt 2 (x := 2) (c := 3) (by decide) (by decide)).mul bk1
    have b3 : Bt 66 (c % 2147483647 + 13) := bt_lt 66 (c := 2147483647 + 13) (by omega) (by omega)
    have b4 : Bt 67 (69621 + 2 * k * k) := (bt_lt 66 (x := 69621) (c := 69622) (by decide) (by decide)).add (b2.mul bk1)
    refine ⟨_, rfl, _, _, rfl, rfl, (by show (0 : Int) < 2147483647; decide), _, _, rfl, rfl, _, rfl, _, _, rfl, rfl, ⟨bl, b6 bk1⟩, _, rfl, _, _, rfl, rfl, ⟨b6 b2, b6 bk1⟩, _, _, rfl, rfl, _, _, rfl, rfl, ⟨b6 b3, b6 b4⟩, _, _, rfl, rfl, (by show (0 : Int) < 2147483587; decide), ?_⟩
    have e := emod_in ((c % 2147483647 + 13) * (69621 + 2 * k * k)) (m := 2147483587) (by decide)
    exact q _ e.1 e.2
abbrev Lw (x : Str) : Prop := ∀ c ∈ cps x, 97 ≤ c ∧ c ≤ 122
theorem lw_one {c : Nat} (h : 97 ≤ c ∧ c ≤ 122) : Lw ⟨#[c]⟩ := fun d hd => by
  have : d = c := by simpa [cps] using hd
  rw [this]
  exact h
theorem lw_app {x y : Str} (hx : Lw x) (hy : Lw y) : Lw (x ++ y) := fun c hc => by
  rw [cps_append'] at hc
  rcases List.mem_append.mp hc with h | h
  · exact hx c h
  · exact hy c h
theorem at_LET {e : Int} (h0 : 0 ≤ e) (h : e < 26) : ∃ c, atI LET.cps.toList e = some c ∧ 97 ≤ c ∧ c ≤ 122 := by
  obtain ⟨n, rfl⟩ := Int.eq_ofNat_of_zero_le h0
  exact ⟨97 + n, atI_nat (at_let (by omega)), by omega, by omega⟩
def spWord : Sp := fun vs H Q _ => ∃ n : Int, vs = [.int n] ∧ 0 ≤ n ∧ ∀ (x : Str) (n' : Int) p H', 0 ≤ n' → Wr x → Same H H' → H' p = some (.tup [.str x, .int n']) → Q (.ref p) H'
theorem pick4i {e : Int} (h0 : 0 ≤ e) (h : e < 4) : ∃ m : Int, atI [V.int 3, V.int 3, V.int 8, V.int 51] e = some (.int m) ∧ 1 ≤ m ∧ m ≤ 51 := by
  obtain ⟨n, rfl⟩ := Int.eq_ofNat_of_zero_le h0
  have : n = 0 ∨ n = 1 ∨ n = 2 ∨ n = 3 := by omega
  rcases this with rfl | rfl | rfl | rfl
  · exact ⟨3, rfl, by decide, by decide⟩
  · exact ⟨3, rfl, by decide, by decide⟩
  · exact ⟨8, rfl, by decide, by decide⟩
  · exact ⟨51, rfl, by decide, by decide⟩
theorem pick3a {e : Int} (h0 : 0 ≤ e) (h : e < 3) : ∃ m : Int, atI [V.int 2, V.int 4, V.int 60] e = some (.int m) ∧ 1 ≤ m ∧ m ≤ 60 := by
  obtain ⟨n, rfl⟩ := Int.eq_ofNat_of_zero_le h0
  have : n = 0 ∨ n = 1 ∨ n = 2 := by omega
  rcases this with rfl | rfl | rfl
  · exact ⟨2, rfl, by decide, by decide⟩
  · exact ⟨4, rfl, by decide, by decide⟩
  · exact ⟨60, rfl, by decide, by decide⟩
theorem pick3b {e : Int} (h0 : 0 ≤ e) (h : e < 3) : ∃ m : Int, atI [V.int 2, V.int 6, V.int 50] e = some (.int m) ∧ 1 ≤ m ∧ m ≤ 50 := by
  obtain ⟨n, rfl⟩ := Int.eq_ofNat_of_zero_le h0
  have : n = 0 ∨ n = 1 ∨ n = 2 := by omega
  rcases this with rfl | rfl | rfl
  · exact ⟨2, rfl, by decide, by decide⟩
  · exact ⟨6, rfl, by decide, by decide⟩
  · exact ⟨50, rfl, by decide, by decide⟩
theorem scWord : FnScope ["_law_left", "_law_word", "_law_many_here", "_law_k"] ["_law_left"] (defScope sWord) := ⟨rfl, rfl, rfl, by decide +kernel, rfl, by decide +kernel, by decide +kernel⟩
theorem ok_word {f : Addr} {fd : FuncData} (F : Fun K "_law_word_by" "_law_word_by" sWord f fd) (T : Txt mg) : FnOk P w K mg base CX0 1 f fd ["_law_left"] spWord := by
  refine F.ok scWord (fun vs H Q E h => ?_) (fun cdv A outer s H vs Q E hr h => ?_)
  · obtain ⟨_, rfl, _⟩ := h
    rfl
  · obtain ⟨n, rfl, n0, k⟩ := h
    refine ⟨_, (pss_cons (ps_set (i := 1) scWord.nd rfl (Or.inl rfl) pe_str)
      (pss_cons (ps_set (i := 2) scWord.nd rfl (Or.inl rfl) (pe_op op_add pe_int (pe_op op_mod (pv 0) pe_int)))
      (pss_cons (ps_set (i := 0) scWord.nd rfl (Or.inl rfl) (pe_op op_fdivB (pv 0) pe_int))
      (pss_cons (ps_for PassesOwn.never rfl (pi_range1 rfl T.range (pa_cons (pv 2) pa_nil)) (pg_name (i := 3) scWord.nd rfl (Or.inl rfl))
        (pss_cons (ps_set (i := 1) scWord.nd rfl (Or.inl rfl) (pe_op op_add_str (pv 1) (pe_ix ix_str pe_str (pe_op op_mod (pv 0) pe_int) (fun _ _ => rfl))))
        (pss_one (ps_set (i := 0) scWord.nd rfl (Or.inl rfl) (pe_op op_fdivB (pv 0) pe_int)))))
      (pss_one (ps_ret (pe_tup (pa_cons (pv 1) (pa_cons (pv 0) pa_nil))))))))), ?_⟩
    have zL : LET.length ≤ sizeLine := by decide +kernel
    have e8 := emod_in n (m := 8) (by decide)
    refine ⟨_, rfl, _, _, rfl, rfl, (by show (0 : Int) < 8; decide), _, _, rfl, rfl, ?_⟩
    refine ⟨_, rfl, _, _, rfl, rfl, ⟨by decide, b9⟩, ?_⟩
    refine ⟨_, rfl, _, rfl, by omega, by omega, ?_⟩
    refine for_range (fun i σ H' => ∃ (x : Str) (l : Int) (v3 : Option V), σ = [some (.int l), some (.str x), some (.int (1 + n % 8)), v3] ∧ x.length = i ∧ Lw x ∧ 0 ≤ l ∧ H' = H) ⟨"", n / 8, none, rfl, rfl, (by decide +kernel), Int.ediv_nonneg n0 (by decide), rfl⟩ ?_ ?_
    · rintro i σ H' hi ⟨x, l, v3, rfl, xl, lw, l0, rfl⟩
      have e := emod_in l (m := 26) (by decide)
      obtain ⟨c, hc, hc'⟩ := at_LET e.1 e.2
      refine ⟨_, rfl, _, rfl, _, _, rfl, rfl, (by show (0 : Int) < 26; decide), LET, _, c, rfl, rfl, zL, hc, _, _, rfl, rfl, sz1000 (by show x.length + 1 ≤ 1000; omega), ?_⟩
      refine ⟨_, rfl, _, _, rfl, rfl, ⟨by decide, b9⟩, ?_⟩
      refine ⟨_, _, _, rfl, ?_, lw_app lw (lw_one hc'), Int.ediv_nonneg l0 (by decide), rfl⟩
      rw [lenA, xl]
      rfl
    · rintro σ H' ⟨x, l, v3, rfl, xl, lw, l0, rfl⟩
      exact ⟨_, rfl, _, rfl, (show 2 ≤ sizeLine by decide +kernel), fun p hp => k x l p _ l0 ⟨by omega, by omega, lw⟩ (Same.upd hp) upd_same⟩
theorem ix_tupK {X : Cx} {K : PySem.W.Frag} (h : X.K = K) : IxR X (rIxT K) := h ▸ ix_tup
theorem abs_nn (c : Int) : 0 ≤ (if c < 0 then -c else c) := by split <;> omega
end
end K86

namespace K86
open PySem PySem.Spec PyProof.Rows L2 GM TM
/-- an order -/
structure O4 where
  x : Str
  f : Int
  l : Int
  m : Int
def t4 (o : O4) : HO := .tup [.str o.x, .int o.f, .int o.l, .int o.m]
def o4 (H : Hp) (a : Addr) : O4 := match H a with
  | some (.tup [.str x, .int f, .int l, .int m]) => ⟨x, f, l, m⟩
  | _ => ⟨⟨#[]⟩, 0, 0, 0⟩
theorem o4_eq {H : Hp} {a : Addr} {x : Str} {f l m : Int} (h : H a = some (.tup [.str x, .int f, .int l, .int m])) : o4 H a = ⟨x, f, l, m⟩ := by unfold o4; rw [h]
/-- orders, by their names -/
def OrdN (H : Hp) (d : Int) (as : List Addr) (xs : List Str) : Prop := Paired (fun a x => ∃ f l m, H a = some (.tup [.str x, .int f, .int l, .int m]) ∧ Wr x ∧ InB d f l m) as xs
theorem OrdN.nil {H : Hp} {d : Int} : OrdN H d [] [] := Paired.nil
theorem paired_mono {α β : Type} {R R' : α → β → Prop} (k : ∀ a b, R a b → R' a b) : ∀ {xs : List α} {ys : List β}, Paired R xs ys → Paired R' xs ys
  | _, _, .nil => .nil
  | _, _, .cons h t => .cons (k _ _ h) (paired_mono k t)
theorem paired_snoc {α β : Type} {R : α → β → Prop} : ∀ {xs : List α} {ys : List β} {a : α} {b : β}, Paired R xs ys → R a b → Paired R (xs ++ [a]) (ys ++ [b])
  | _, _, _, _, .nil, r => .cons r .nil
  | _, _, _, _, .cons h t, r => .cons h (paired_snoc t r)
theorem paired_get {α β : Type} {R : α → β → Prop} : ∀ {xs : List α} {ys : List β} {i : Nat} {a : α}, Paired R xs ys → xs[i]? = some a → ∃ b, ys[i]? = some b ∧ R a b
  | _, _, _, _, .nil, h => by simp at h
  | _, _, 0, _, .cons r t, h => by
    simp at h
    subst h
    exact ⟨_, rfl, r⟩
  | _, _, i + 1, _, .cons r t, h => by
    rw [List.getElem?_cons_succ] at h
    obtain ⟨b, e, r'⟩ := paired_get t h
    exact ⟨b, by rw [List.getElem?_cons_succ]; exact e, r'⟩
theorem paired_len {α β : Type} {R : α → β → Prop} : ∀ {xs : List α} {ys : List β}, Paired R xs ys → xs.length = ys.length
  | _, _, .nil => rfl
  | _, _, .cons _ t => by rw [List.length_cons, List.length_cons, paired_len t]
theorem OrdN.keep {H H' : Hp} {d : Int} {as : List Addr} {xs : List Str} (h : OrdN H d as xs) (s : Tk H H') : OrdN H' d as xs := paired_mono (fun a x ⟨f, l, m, e, r⟩ => ⟨f, l, m, s _ _ e, r⟩) h
theorem OrdN.add {H : Hp} {d : Int} {as : List Addr} {xs : List Str} {q : Addr} {x : Str} {f l m : Int} (h : OrdN H d as xs) (hq : H q = some (.tup [.str x, .int f, .int l, .int m])) (w : Wr x) (b : InB d f l m) : OrdN H d (as ++ [q]) (xs ++ [x]) := paired_snoc h ⟨f, l, m, hq, w, b⟩
theorem OrdN.nms {H : Hp} {d : Int} : ∀ {as : List Addr} {xs : List Str}, OrdN H d as xs → (as.map fun a => (o4 H a).x) = xs
  | _, _, Paired.nil => rfl
  | _, _, Paired.cons ⟨f, l, m, e, _⟩ t => by rw [List.map_cons, OrdN.nms t, o4_eq e]
theorem OrdN.all {H : Hp} {d : Int} : ∀ {as : List Addr} {xs : List Str}, OrdN H d as xs → ∀ a ∈ as, H a = some (t4 (o4 H a)) ∧ Wr (o4 H a).x ∧ InB d (o4 H a).f (o4 H a).l (o4 H a).m
  | _, _, Paired.nil => fun a h => nomatch h
  | _, _, Paired.cons ⟨f, l, m, e, w, b⟩ t => fun a ha => by
    rcases List.mem_cons.mp ha with rfl | ha
    · rw [o4_eq e]
      exact ⟨e, w, b⟩
    · exact OrdN.all t a ha
structure Od (H : Hp) (d : Int) (as : List Addr) (g : Addr → O4) : Prop where
  tp : ∀ a ∈ as, H a = some (t4 (g a))
  wr : ∀ a ∈ as, Wr (g a).x
  ib : ∀ a ∈ as, InB d (g a).f (g a).l (g a).m
  nd : (as.map fun a => (g a).x).Nodup
  ln : as.length ≤ 40
theorem OrdN.od {H : Hp} {d : Int} {as : List Addr} {xs : List Str} (h : OrdN H d as xs) (nd : xs.Nodup) (l : as.length ≤ 40) : Od H d as (o4 H) :=
  ⟨fun a ha => (h.all a ha).1, fun a ha => (h.all a ha).2.1, fun a ha => (h.all a ha).2.2, by rw [h.nms]; exact nd, l⟩
theorem Od.keep {H H' : Hp} {d : Int} {as : List Addr} {g : Addr → O4} (h : Od H d as g) (s : Tk H H') : Od H' d as g := ⟨fun a ha => s _ _ (h.tp a ha), h.wr, h.ib, h.nd, h.ln⟩
abbrev In50 (ns : List Int) : Prop := ∀ n ∈ ns, 0 ≤ n ∧ n ≤ 50
def spTurns : Sp := fun vs H Q _ => ∃ s d : Int, vs = [.int s, .int d] ∧ 0 ≤ s ∧ s < 2147483647 ∧ 1 ≤ d ∧ d ≤ 60 ∧ ∀ p (ns : List Int) H', (ns.length : Int) = d → In50 ns → Same H H' → H p = none → H' p = some (.lst (ns.map V.int)) → Q (.ref p) H'
def spTurnsBy : Sp := fun vs H Q _ => ∃ c d : Int, vs = [.int c, .int d] ∧ 1 ≤ d ∧ d ≤ 60 ∧ ∀ p (ns : List Int) H', (ns.length : Int) = d → In50 ns → Same H H' → H p = none → H' p = some (.lst (ns.map V.int)) → Q (.ref p) H'
theorem ints_of' {p : Int → Prop} {ys : List V} (h : ∀ y ∈ ys, ∃ n : Int, y = .int n ∧ p n) : ∃ ns : List Int, ys = ns.map V.int ∧ ∀ n ∈ ns, p n := by
  induction ys with
  | nil => exact ⟨[], rfl, fun n h => nomatch h⟩
  | cons y r ih =>
    obtain ⟨n, rfl, pn⟩ := h y (List.mem_cons_self ..)
    obtain ⟨ns, e, ps⟩ := ih fun z hz => h z (List.mem_cons_of_mem _ hz)
    refine ⟨n :: ns, by rw [e]; rfl, fun m hm => ?_⟩
    rcases List.mem_cons.mp hm with rfl | hm
    · exact pn
    · exact ps m hm
theorem in50_snoc {ns : List Int} {n : Int} (h : In50 ns) (h0 : 0 ≤ n) (h1 : n ≤ 50) : In50 (ns ++ [n]) := fun m hm => by
  rcases List.mem_append.mp hm with z | z
  · exact h m z
  · rw [List.mem_singleton.mp z]
    exact ⟨h0, h1⟩
def l1 (s : Int) (k : Nat) : Nat := 97 + ((s + 7 * (k : Int)) % 26).toNat
def l2 (s : Int) (k : Nat) : Nat := 97 + ((s / 26 + (k : Int) / 26) % 26).toNat
def cpN (s : Int) (k : Nat) : List Nat := if s / 676 % 4 = 0 then (if k < 26 then [l1 s k] else [l1 s k, l2 s k]) else (if s / 676 % 4 = 1 then cps "day" else if s / 676 % 4 = 2 then cps "twelve" else []) ++ [l1 s k, l2 s k]
theorem cpN_inj {s : Int} {j k : Nat} (hj : j < 40) (hk : k < 40) (e : cpN s j = cpN s k) : j = k := by
  have e1 := emod_in (s + 7 * (j : Int)) (m := 26) (by decide)
  have e2 := emod_in (s + 7 * (k : Int)) (m := 26) (by decide)
  have e3 := emod_in (s / 26 + (j : Int) / 26) (m := 26) (by decide)
  have e4 := emod_in (s / 26 + (k : Int) / 26) (m := 26) (by decide)
  have key : l1 s j = l1 s k → l2 s j = l2 s k → j = k := fun h1 h2 => by
    have a1 : (s + 7 * (j : Int)) % 26 = (s + 7 * (k : Int)) % 26 := by unfold l1 at h1; omega
    have a2 : (s / 26 + (j : Int) / 26) % 26 = (s / 26 + (k : Int) / 26) % 26 := by unfold l2 at h2; omega
    clear h1 h2 e e1 e2 e3 e4
    generalize s / 26 = A at a2
    have a3 : (j : Int) / 26 = (k : Int) / 26 := by omega
    clear a2
    omega
  have key1 : l1 s j = l1 s k → (j < 26 ↔ k < 26) → j = k := fun h1 h2 => by
    unfold l1 at h1
    omega
  unfold cpN at e
  by_cases w : s / 676 % 4 = 0
  · rw [if_pos w, if_pos w] at e
    by_cases a : j < 26
    · rw [if_pos a] at e
      by_cases b : k < 26
      · rw [if_pos b] at e
        exact key1 (by simpa using e) ⟨fun _ => b, fun _ => a⟩
      · rw [if_neg b] at e
        simp at e
    · rw [if_neg a] at e
      by_cases b : k < 26
      · rw [if_pos b] at e
        simp at e
      · rw [if_neg b] at e
        simp at e
        exact key e.1 e.2
  · rw [if_neg w, if_neg w] at e
    have e' := List.append_cancel_left e
    simp at e'
    exact key e'.1 e'.2
theorem at_LETe {e : Int} (h0 : 0 ≤ e) (h : e < 26) : atI LET.cps.toList e = some (97 + e.toNat) := by
  obtain ⟨n, rfl⟩ := Int.eq_ofNat_of_zero_le h0
  exact atI_nat (at_let (by omega))
theorem pick4e {e : Int} {a b c d : Str} (h0 : 0 ≤ e) (h : e < 4) : ∃ x, atI [V.str a, V.str b, V.str c, V.str d] e = some (.str x) ∧ ((e = 0 ∧ x = a) ∨ (e = 1 ∧ x = b) ∨ (e = 2 ∧ x = c) ∨ (e = 3 ∧ x = d)) := by
  obtain ⟨n, rfl⟩ := Int.eq_ofNat_of_zero_le h0
  have : n = 0 ∨ n = 1 ∨ n = 2 ∨ n = 3 := by omega
  rcases this with rfl | rfl | rfl | rfl
  · exact ⟨a, rfl, .inl ⟨rfl, rfl⟩⟩
  · exact ⟨b, rfl, .inr (.inl ⟨rfl, rfl⟩)⟩
  · exact ⟨c, rfl, .inr (.inr (.inl ⟨rfl, rfl⟩))⟩
  · exact ⟨d, rfl, .inr (.inr (.inr ⟨rfl, rfl⟩))⟩
def NmL (s : Int) (ws : List Str) : Prop := ∀ (k : Nat) x, ws[k]? = some x → cps x = cpN s k ∧ Wr x
theorem NmL.nd {s : Int} {ws : List Str} (h : NmL s ws) (l : ws.length ≤ 40) : ws.Nodup := by
  refine List.pairwise_iff_getElem.mpr fun i j hi hj hij e => ?_
  have e1 := (h i ws[i] (List.getElem?_eq_getElem hi)).1
  have e2 := (h j ws[j] (List.getElem?_eq_getElem hj)).1
  rw [e, e2] at e1
  have := cpN_inj (by omega) (by omega) e1
  omega
theorem NmL.add {s : Int} {ws : List Str} {x : Str} (h : NmL s ws) (e : cps x = cpN s ws.length) (w : Wr x) : NmL s (ws ++ [x]) := fun k y hk => by
  by_cases l : k < ws.length
  · rw [List.getElem?_append_left l] at hk
    exact h k y hk
  · rw [List.getElem?_append_right (by omega)] at hk
    have z : k - ws.length = 0 := by
      have := (List.getElem?_eq_some_iff.mp hk).1
      simp at this
      omega
    rw [z] at hk
    simp at hk
    rw [← hk, show k = ws.length by omega]
    exact ⟨e, w⟩
def spNames : Sp := fun vs H Q _ => ∃ s : Int, vs = [.int s, .int 30] ∧ 0 ≤ s ∧ s < 2147483647 ∧ ∀ p (ws : List Str) H', ws.length = 30 → (∀ x ∈ ws, Wr x) → ws.Nodup → Same H H' → H p = none → H' p = some (.lst (ws.map V.str)) → Q (.ref p) H'
section
variable {P : Program} {w : World} {K : PySem.W.Frag} {mg : Str → Option Value} {base : Heap}
theorem scTurnsBy : FnScope ["_law_cell", "_law_days", "_law_left", "_law_found", "_law_k"] ["_law_cell", "_law_days"] (defScope sTurnsBy) := ⟨rfl, rfl, rfl, by decide +kernel, rfl, by decide +kernel, by decide +kernel⟩
theorem ok_turnsby {f : Addr} {fd : FuncData} (F : Fun K "_law_turns_by" "_law_turns_by" sTurnsBy f fd) (T : Txt mg) : FnOk P w K mg base CX0 1 f fd ["_law_cell", "_law_days"] spTurnsBy := by
  refine F.ok scTurnsBy (fun vs H Q E h => ?_) (fun cdv A outer s H vs Q E hr h => ?_)
  · obtain ⟨_, _, rfl, _⟩ := h
    rfl
  · obtain ⟨c, d, rfl, d1, d60, k⟩ := h
    refine ⟨_, (pss_cons (ps_set (i := 2) scTurnsBy.nd rfl (Or.inl rfl) (pe_callB call_abs rfl T.abs' bt_abs (pa_cons (pv 0) pa_nil)))
      (pss_cons (ps_set (i := 3) scTurnsBy.nd rfl (Or.inl rfl) (pe_lst pa_nil))
      (pss_cons (ps_for PassesOwn.never rfl (pi_range1 rfl T.range (pa_cons (pv 1) pa_nil)) (pg_name (i := 4) scTurnsBy.nd rfl (Or.inl rfl))
        (pss_cons (ps_expr (pe_bm PySem.F.plainAttrs_list PySem.F.slot_list_append PySem.F.type_list_append mt_append (pv 3) (pa_cons (pe_op op_mod (pv 2) pe_int) pa_nil)))
        (pss_one (ps_set (i := 2) scTurnsBy.nd rfl (Or.inl rfl) (pe_op op_fdivB (pv 2) pe_int)))))
      (pss_one (ps_ret (pv 3)))))), ?_⟩
    refine ⟨_, rfl, c, rfl, ?_⟩
    refine ⟨(by show 0 ≤ sizeLine; decide), fun l hl => ?_⟩
    refine ⟨_, rfl, _, rfl, by omega, by omega, ?_⟩
    refine for_range (fun i σ H' => ∃ (ns : List Int) (n : Int) (v4 : Option V), σ = [some (.int c), some (.int d), some (.int n), some (.ref l), v4] ∧ Same H H' ∧ H' l = some (.lst (ns.map V.int)) ∧ ns.length = i ∧ In50 ns)
      ⟨[], _, none, rfl, Same.upd hl, upd_same, rfl, fun n h => nomatch h⟩ ?_ ?_
    · rintro i σ H2 hi ⟨ns, n, v4, rfl, s2, hl2, nl, i5⟩
      have e := emod_in n (m := 51) (by decide)
      refine ⟨_, rfl, .inl ⟨rfl, _, SqL.of hl2⟩, _, rfl, _, _, rfl, rfl, (by show (0 : Int) < 51; decide), l, _, _, rfl, rfl, hl2, small1000 (by rw [List.length_map]; omega), ?_⟩
      refine ⟨_, rfl, _, _, rfl, rfl, ⟨by decide, b9⟩, ?_⟩
      exact ⟨ns ++ [n % 51], _, _, rfl, same_own s2 hl, by rw [List.map_append]; exact upd_same, by rw [List.length_append, nl]; rfl, in50_snoc i5 e.1 (by omega)⟩
    · rintro σ H2 ⟨ns, n, v4, rfl, s2, hl2, nl, i5⟩
      exact ⟨_, rfl, k l ns _ (by omega) i5 s2 hl hl2⟩
theorem ndT : (["_law_k", "_law_seed", "_law_most"] : List Str).Nodup := by decide +kernel
theorem scTurns : FnScope ["_law_seed", "_law_days", "_law_most"] ["_law_seed", "_law_days"] (defScope sTurns) := ⟨rfl, rfl, rfl, by decide +kernel, rfl, by decide +kernel, by decide +kernel⟩
theorem ok_turns {f : Addr} {fd : FuncData} (F : Fun K "_law_turns" "_law_turns" sTurns f fd) (T : Txt mg) : FnOk P w K mg base CX0 1 f fd ["_law_seed", "_law_days"] spTurns := by
  refine F.ok scTurns (fun vs H Q E h => ?_) (fun cdv A outer s H vs Q E hr h => ?_)
  · obtain ⟨_, _, rfl, _⟩ := h
    rfl
  · obtain ⟨s0, d, rfl, s00, sl, d1, d60, k⟩ := h
    refine ⟨_, (pss_cons (ps_set (i := 2) scTurns.nd rfl (Or.inr rfl) (pe_ix ix_list (pe_lst (pa_cons pe_int (pa_cons pe_int (pa_cons pe_int (pa_cons pe_int pa_nil))))) (pe_op op_mod (pv 0) pe_int) (fun _ _ => rfl)))
      (pss_one (ps_ret (pe_compC (N' := ["_law_k", "_law_seed", "_law_most"]) (fun σ => [none, some 0, some 2].map fun t => t.bind fun j => (σ[j]?).join) rfl rfl (by decide +kernel) (by decide +kernel)
          (hk_of (sc := defScope sTurns) rfl (by decide +kernel)) (fun _ _ _ => blkN_by (sc := defScope sTurns) (N := ["_law_seed", "_law_days", "_law_most"]) [none, some 0, some 2] rfl rfl rfl rfl (by decide +kernel))
          (pi_range1 rfl T.range (pa_cons (pv 1) pa_nil)) (fun _ _ _ _ _ _ => pg_name (i := 0) ndT rfl (Or.inl rfl)) (fun _ _ _ _ _ _ => pifs_nil)
          (fun _ _ _ _ _ _ => pe_op op_mod (pe_op op_mod (pe_op op_mulB (pv 1) (pe_op op_add (pe_op op_mulB pe_int (pv 0)) pe_int)) pe_int) (pv 2)))))), ?_⟩
    have e4 := emod_in s0 (m := 4) (by decide)
    obtain ⟨m, hm, m1, m51⟩ := pick4i e4.1 e4.2
    refine ⟨(by show 4 ≤ sizeLine; decide), fun z hz => ⟨_, rfl, _, _, rfl, rfl, (by show (0 : Int) < 4; decide), z, _, _, _, rfl, rfl, SqL.of upd_same, hm, ?_⟩⟩
    have s1 := Same.upd (o := .lst [.int 3, .int 3, .int 8, .int 51]) hz
    refine ⟨_, rfl, _, rfl, by omega, by omega, fun D hD => ?_⟩
    refine comp_rel (Ys.rng (lo := 0)) (fun _ _ y _ => ∃ n : Int, y = .int n ∧ 0 ≤ n ∧ n ≤ 50) (fun _ _ _ _ _ h _ => h) hD (by rw [rngV_len]; omega) (fun i x H5 R hx sm hR => ?_) (fun ys H5 sm hD5 yl hy => ?_)
    · obtain ⟨hi', rfl⟩ := rngV_get hx
      have bi : Bt 64 ((0 : Int) + i) := bt_lt 64 (c := 100) (by omega) (by omega)
      have bs : Bt 64 s0 := bt_lt 64 (c := 2147483647) s00 sl
      have b2 : Bt 64 (2 * ((0 : Int) + i) + 3) := bt_lt 64 (c := 1000) (by omega) (by omega)
      have em := emod_in (s0 * (2 * ((0 : Int) + i) + 3) % 1000003) (m := m) (by omega)
      exact ⟨(Keep.refl _).set rfl, _, rfl, _, rfl, _, _, rfl, rfl, ⟨bl, b6 bi⟩, _, _, rfl, rfl, _, _, rfl, rfl, ⟨b6 bs, b6 b2⟩, _, _, rfl, rfl, (by show (0 : Int) < 1000003; decide), _, rfl, _, _, rfl, rfl, (by show 0 < m; omega), hR _ _ (Same.refl _) ⟨_, rfl, em.1, by omega⟩⟩
    · obtain ⟨ns, e, i5⟩ := ints_of' (ys := ys) (p := fun n => 0 ≤ n ∧ n ≤ 50) fun y hy' => by
        obtain ⟨i, hi⟩ := List.mem_iff_getElem?.mp hy'
        obtain ⟨x, hx⟩ : ∃ x, (rngV 0 d.toNat)[i]? = some x := ⟨_, List.getElem?_eq_getElem (by have := (List.getElem?_eq_some_iff.mp hi).1; omega)⟩
        exact hy i x y hx hi
      subst e
      rw [rngV_len, List.length_map] at yl
      exact k D ns _ (by omega) i5 (s1.trans sm) (same_none s1 hD) hD5
theorem scNames : FnScope ["_law_seed", "_law_many_here", "_law_letters", "_law_found", "_law_k", "_law_sign", "_law_short"] ["_law_seed", "_law_many_here"] (defScope sNames) := ⟨rfl, rfl, rfl, by decide +kernel, rfl, by decide +kernel, by decide +kernel⟩
theorem ok_names {f : Addr} {fd : FuncData} (F : Fun K "_law_names" "_law_names" sNames f fd) (T : Txt mg) : FnOk P w K mg base CX0 1 f fd ["_law_seed", "_law_many_here"] spNames := by
  refine F.ok scNames (fun vs H Q E h => ?_) (fun cdv A outer s H vs Q E hr h => ?_)
  · obtain ⟨_, rfl, _⟩ := h
    rfl
  · obtain ⟨s0, rfl, s00, sl, k⟩ := h
    refine ⟨_, (pss_cons (ps_set (i := 2) scNames.nd rfl (Or.inl rfl) pe_str)
      (pss_cons (ps_set (i := 3) scNames.nd rfl (Or.inl rfl) (pe_lst pa_nil))
      (pss_cons (ps_for PassesOwn.never rfl (pi_range1 rfl T.range (pa_cons (pv 1) pa_nil)) (pg_name (i := 4) scNames.nd rfl (Or.inl rfl))
        (pss_cons (ps_set (i := 5) scNames.nd rfl (Or.inl rfl) (pe_op op_add_str (pe_ix ix_str (pv 2) (pe_op op_mod (pe_op op_add (pv 0) (pe_op op_mulB pe_int (pv 4))) pe_int) (fun _ _ => rfl)) (pe_ix ix_str (pv 2) (pe_op op_mod (pe_op op_add (pe_op op_fdivB (pv 0) pe_int) (pe_op op_fdivB (pv 4) pe_int)) pe_int) (fun _ _ => rfl))))
        (pss_cons (ps_set (i := 6) scNames.nd rfl (Or.inl rfl) (pv 5))
        (pss_cons (ps_if (pt_cmpR op_lt (pv 4) pe_int (nomark _))
          (pss_one (ps_set (i := 6) scNames.nd rfl (Or.inl rfl) (pe_ix ix_str (pv 5) pe_int (fun _ _ => rfl))))
          pss_nil)
        (pss_one (ps_expr (pe_bm PySem.F.plainAttrs_list PySem.F.slot_list_append PySem.F.type_list_append mt_append (pv 3) (pa_cons (pe_ix ix_list (pe_lst (pa_cons (pv 6) (pa_cons (pe_op op_add_str pe_str (pv 5)) (pa_cons (pe_op op_add_str pe_str (pv 5)) (pa_cons (pv 5) pa_nil))))) (pe_op op_mod (pe_op op_fdivB (pv 0) pe_int) pe_int) (fun _ _ => rfl)) pa_nil))))))))
      (pss_one (ps_ret (pv 3)))))), ?_⟩
    have zL : LET.length ≤ sizeLine := by decide +kernel
    refine ⟨(by show 0 ≤ sizeLine; decide), fun d hd => ?_⟩
    refine ⟨_, rfl, _, rfl, by decide, by decide, ?_⟩
    refine for_range (fun i σ H' => ∃ (ws : List Str) (v4 v5 v6 : Option V), σ = [some (.int s0), some (.int 30), some (.str LET), some (.ref d), v4, v5, v6] ∧ Same H H' ∧ H' d = some (.lst (ws.map V.str)) ∧ ws.length = i ∧ NmL s0 ws)
      ⟨[], none, none, none, rfl, Same.upd hd, upd_same, rfl, fun k x h => by simp at h⟩ ?_ ?_
    · rintro i σ H2 hi ⟨ws, v4, v5, v6, rfl, s2, hd2, wl, nm⟩
      have i40 : i < 30 := by omega
      have zi : ((0 : Int) + i) = ((i : Nat) : Int) := by omega
      have bi : Bt 64 ((0 : Int) + i) := bt_lt 64 (c := 100) (by omega) (by omega)
      have e1 := emod_in (s0 + 7 * ((0 : Int) + i)) (m := 26) (by decide)
      have e2 := emod_in (s0 / 26 + ((0 : Int) + i) / 26) (m := 26) (by decide)
      have hc1 := at_LETe e1.1 e1.2
      have hc2 := at_LETe e2.1 e2.2
      rw [show 97 + ((s0 + 7 * ((0 : Int) + i)) % 26).toNat = l1 s0 i by unfold l1; rw [zi]] at hc1
      rw [show 97 + ((s0 / 26 + ((0 : Int) + i) / 26) % 26).toNat = l2 s0 i by unfold l2; rw [zi]] at hc2
      have b1 : 97 ≤ l1 s0 i ∧ l1 s0 i ≤ 122 := by unfold l1; rw [← zi]; omega
      have b2 : 97 ≤ l2 s0 i ∧ l2 s0 i ≤ 122 := by unfold l2; rw [← zi]; omega
      refine ⟨_, rfl, _, rfl, _, rfl, _, _, rfl, rfl, ⟨bl, b6 bi⟩, _, _, rfl, rfl, _, _, rfl, rfl, (by show (0 : Int) < 26; decide), LET, _, _, rfl, rfl, zL, hc1, ?_⟩
      refine ⟨_, rfl, _, rfl, _, _, rfl, rfl, ⟨by decide, b9⟩, _, rfl, _, _, rfl, rfl, ⟨by decide, b9⟩, _, _, rfl, rfl, _, _, rfl, rfl, (by show (0 : Int) < 26; decide), LET, _, _, rfl, rfl, zL, hc2, _, _, rfl, rfl, sz1000 (by show 2 ≤ 1000; decide), ?_⟩
      have lsg : ((⟨#[l1 s0 i]⟩ : Str) ++ ⟨#[l2 s0 i]⟩).length = 2 := by rw [lenA]; rfl
      have wsg : Lw ((⟨#[l1 s0 i]⟩ : Str) ++ ⟨#[l2 s0 i]⟩) := lw_app (lw_one b1) (lw_one b2)
      have csg : cps ((⟨#[l1 s0 i]⟩ : Str) ++ ⟨#[l2 s0 i]⟩) = [l1 s0 i, l2 s0 i] := by rw [cps_append']; rfl
      generalize hsg : (⟨#[l1 s0 i]⟩ : Str) ++ ⟨#[l2 s0 i]⟩ = sg at lsg wsg csg ⊢
      refine ⟨_, rfl, _, rfl, _, _, rfl, rfl, _, rfl, ?_⟩
      refine if_key (fun σ' H' => ∃ sh : Str, Wr sh ∧ cps sh = (if i < 26 then [l1 s0 i] else [l1 s0 i, l2 s0 i]) ∧ H' = H2 ∧ σ' = [some (.int s0), some (.int 30), some (.str LET), some (.ref d), some (.int ((0 : Int) + i)), some (.str sg), some (.str sh)]) (fun key hb => ?_) (fun hb => ⟨sg, ⟨by omega, by omega, wsg⟩, ?_, rfl, rfl⟩) ?_
      · have l26 : i < 26 := by have := of_decide_eq_true hb; omega
        refine ⟨_, rfl, sg, 0, l1 s0 i, rfl, rfl, sz1000 (by omega), ?_, key _ _ ⟨⟨#[l1 s0 i]⟩, ⟨(by show 1 ≤ 1; decide), (by show 1 ≤ 8; decide), lw_one b1⟩, by rw [if_pos l26], rfl, rfl⟩⟩
        rw [← hsg]
        rfl
      · have l26 : ¬ i < 26 := fun z => hb (decide_eq_true (by omega))
        rw [if_neg l26, csg]
      · rintro _ _ ⟨sh, wsh, csh, rfl, rfl⟩
        have e4 := emod_in (s0 / 676) (m := 4) (by decide)
        have wd : Wr (("day" : Str) ++ sg) := ⟨by rw [lenA, lsg]; decide, by rw [lenA, lsg]; decide, lw_app (by decide +kernel) wsg⟩
        have wt : Wr (("twelve" : Str) ++ sg) := ⟨by rw [lenA, lsg]; decide, by rw [lenA, lsg]; decide, lw_app (by decide +kernel) wsg⟩
        obtain ⟨x, hx, hw⟩ := pick4e (a := sh) (b := ("day" : Str) ++ sg) (c := ("twelve" : Str) ++ sg) (d := sg) e4.1 e4.2
        have nx : cps x = cpN s0 i ∧ Wr x := by
          unfold cpN
          rcases hw with ⟨q, rfl⟩ | ⟨q, rfl⟩ | ⟨q, rfl⟩ | ⟨q, rfl⟩
          · rw [if_pos q]; exact ⟨csh, wsh⟩
          · rw [if_neg (by omega), if_pos q, cps_append', csg]; exact ⟨rfl, wd⟩
          · rw [if_neg (by omega), if_neg (by omega), if_pos q, cps_append', csg]; exact ⟨rfl, wt⟩
          · rw [if_neg (by omega), if_neg (by omega), if_neg (by omega), csg]; exact ⟨rfl, ⟨by omega, by omega, wsg⟩⟩
        have zd : (("day" : Str) ++ sg).length ≤ sizeLine := sz1000 (by have := wd.l8; omega)
        have zt : (("twelve" : Str) ++ sg).length ≤ sizeLine := sz1000 (by have := wt.l8; omega)
        refine ⟨_, rfl, .inl ⟨rfl, _, SqL.of hd2⟩, _, rfl, _, rfl, _, _, rfl, rfl, ?_, _, rfl, _, _, rfl, rfl, ?_, _, rfl, (by show 4 ≤ sizeLine; decide), fun z hz => ?_⟩
        · rw [lenA] at zd; exact zd
        · rw [lenA] at zt; exact zt
        have u1 := Same.upd (o := .lst [.str sh, .str (("day" : Str) ++ sg), .str (("twelve" : Str) ++ sg), .str sg]) hz
        refine ⟨_, rfl, _, _, rfl, rfl, ⟨by decide, b9⟩, _, _, rfl, rfl, (by show (0 : Int) < 4; decide), z, _, _, _, rfl, rfl, SqL.of upd_same, hx, d, _, _, rfl, rfl, u1 _ _ hd2, small1000 (by rw [List.length_map]; omega), ?_⟩
        exact ⟨ws ++ [x], _, _, _, rfl, same_own (s2.trans u1) hd, by rw [List.map_append]; exact upd_same, by rw [List.length_append, wl]; rfl, nm.add (by rw [wl]; exact nx.1) nx.2⟩
    · rintro σ H2 ⟨ws, v4, v5, v6, rfl, s2, hd2, wl, nm⟩
      refine ⟨_, rfl, k d ws _ wl (fun x hx => ?_) (nm.nd (by omega)) s2 hd hd2⟩
      obtain ⟨i, hi⟩ := List.mem_iff_getElem?.mp hx
      exact (nm i x hi).2
end
end K86

namespace K86
open PySem PySem.Spec PyProof.Rows L2 GM TM
def spOrders (K : PySem.W.Frag) : Sp := fun vs H Q _ => ∃ (a : Addr) (ns : List Int) (b : Addr) (ws : List Str) (d : Int), vs = [.ref a, .ref b, .int d] ∧ SqL K H a (ns.map V.int) ∧ SqL K H b (ws.map V.str) ∧ ws.length = 30 ∧ (∀ x ∈ ws, Wr x) ∧ ws.Nodup ∧ 1 ≤ d ∧ d ≤ 60 ∧ ∀ p as g H', Od H' d as g → Same H H' → H p = none → H' p = some (.lst (as.map V.ref)) → Q (.ref p) H'
def spOrdBy (K : PySem.W.Frag) : Sp := fun vs H Q _ => ∃ (a : Addr) (ns : List Int) (d : Int), vs = [.ref a, .int d] ∧ SqL K H a (ns.map V.int) ∧ ns.length ≤ 40 ∧ 1 ≤ d ∧ d ≤ 60 ∧ ∀ p as g H', Od H' d as g → Same H H' → H p = none → H' p = some (.lst (as.map V.ref)) → Q (.ref p) H'
section
variable {P : Program} {w : World} {K : PySem.W.Frag} {mg : Str → Option Value} {base : Heap}
theorem scOrders : FnScope ["_law_cells", "_law_names_here", "_law_days", "_law_found", "_law_k", "_law_cell", "_law_first", "_law_last"] ["_law_cells", "_law_names_here", "_law_days"] (defScope sOrders) := ⟨rfl, rfl, rfl, by decide +kernel, rfl, by decide +kernel, by decide +kernel⟩
theorem ok_orders {f : Addr} {fd : FuncData} (F : Fun K "_law_orders" "_law_orders" sOrders f fd) (T : Txt mg) (cM : Cal P w K mg base CX0 1 "_law_mixed" ["_law_cell", "_law_k"] spMixed) : FnOk P w K mg base CX0 2 f fd ["_law_cells", "_law_names_here", "_law_days"] (spOrders K) := by
  refine F.ok scOrders (fun vs H Q E h => ?_) (fun cdv A outer s H vs Q E hr h => ?_)
  · obtain ⟨_, _, _, _, _, rfl, _⟩ := h
    rfl
  · obtain ⟨a, ns, b, ws, d, rfl, ha, hb, wl, ww, wn, d1, d60, k⟩ := h
    refine ⟨_, (pss_cons (ps_set (i := 3) scOrders.nd rfl (Or.inl rfl) (pe_lst pa_nil))
      (pss_cons (ps_for PassesOwn.never rfl (pi_range1 rfl T.range (pa_cons (pe_callB (call_min2 rfl) rfl T.min' boot_min (pa_cons (pe_callB call_len_seq rfl T.len PySem.boot_len (pa_cons (pv 0) pa_nil)) (pa_cons (pe_callB call_len_seq rfl T.len PySem.boot_len (pa_cons (pv 1) pa_nil)) pa_nil))) pa_nil)) (pg_name (i := 4) scOrders.nd rfl (Or.inl rfl))
        (pss_cons (ps_set (i := 5) scOrders.nd rfl (Or.inl rfl) (pe_cal cM hr rfl pass0 (pa_cons (pe_ix ix_list (pv 0) (pv 4) (fun _ _ => rfl)) (pa_cons (pe_op op_add (pv 4) pe_int) pa_nil))))
        (pss_cons (ps_set (i := 6) scOrders.nd rfl (Or.inl rfl) (pe_op op_mod (pv 5) (pv 2)))
        (pss_cons (ps_set (i := 7) scOrders.nd rfl (Or.inl rfl) (pe_callB (call_min2 rfl) rfl T.min' boot_min (pa_cons (pe_op op_sub (pv 2) pe_int) (pa_cons (pe_op op_add (pv 6) (pe_op op_mod (pe_op op_fdivB (pv 5) pe_int) (pe_ix ix_list (pe_lst (pa_cons pe_int (pa_cons pe_int (pa_cons pe_int pa_nil)))) (pe_op op_mod (pe_op op_fdivB (pv 5) pe_int) pe_int) (fun _ _ => rfl)))) pa_nil))))
        (pss_one (ps_expr (pe_bm PySem.F.plainAttrs_list PySem.F.slot_list_append PySem.F.type_list_append mt_append (pv 3) (pa_cons (pe_tup (pa_cons (pe_ix ix_list (pv 1) (pv 4) (fun _ _ => rfl)) (pa_cons (pv 6) (pa_cons (pv 7) (pa_cons (pe_op op_add pe_int (pe_op op_mod (pe_op op_fdivB (pv 5) pe_int) (pe_ix ix_list (pe_lst (pa_cons pe_int (pa_cons pe_int (pa_cons pe_int pa_nil)))) (pe_op op_mod (pe_op op_fdivB (pv 5) pe_int) pe_int) (fun _ _ => rfl)))) pa_nil))))) pa_nil))))))))
      (pss_one (ps_ret (pv 3))))), ?_⟩
    refine ⟨(by show 0 ≤ sizeLine; decide), fun l hl => ?_⟩
    have s0 := Same.upd (o := .lst []) hl
    refine ⟨_, rfl, a, _, rfl, .inl (s0.seq ha), _, rfl, b, _, rfl, .inl (s0.seq hb), _, _, rfl, _, rfl, ?_⟩
    rw [List.length_map, List.length_map, wl]
    generalize hj : (if ((30 : Nat) : Int) < (ns.length : Int) then ((30 : Nat) : Int) else (ns.length : Int)) = j
    have j44 : 0 ≤ j ∧ j ≤ 40 ∧ j ≤ ns.length := by
      rw [← hj]
      split <;> omega
    refine ⟨by omega, by omega, ?_⟩
    refine for_range (fun i σ H' => ∃ (us : List Addr) (v4 v5 v6 v7 : Option V), σ = [some (.ref a), some (.ref b), some (.int d), some (.ref l), v4, v5, v6, v7] ∧ Same H H' ∧ H' l = some (.lst (us.map V.ref)) ∧ us.length = i ∧ OrdN H' d us (ws.take i))
      ⟨[], none, none, none, none, rfl, s0, upd_same, rfl, OrdN.nil⟩ ?_ ?_
    · rintro i σ H2 hi ⟨us, v4, v5, v6, v7, rfl, s2, hl2, ul, ol⟩
      have i44 : i < 40 := by omega
      obtain ⟨c, hc⟩ : ∃ c, ns[i]? = some c := ⟨_, List.getElem?_eq_getElem (by omega)⟩
      obtain ⟨x, hx⟩ : ∃ x, ws[i]? = some x := ⟨_, List.getElem?_eq_getElem (by omega)⟩
      have wx := ww x (List.mem_of_getElem? hx)
      have ac : atI (ns.map V.int) ((0 : Int) + i) = some (.int c) := by rw [show ((0 : Int) + i) = ((i : Nat) : Int) by omega]; exact atI_nat (by rw [List.getElem?_map, hc]; rfl)
      have ax : atI (ws.map V.str) ((0 : Int) + i) = some (.str x) := by rw [show ((0 : Int) + i) = ((i : Nat) : Int) by omega]; exact atI_nat (by rw [List.getElem?_map, hx]; rfl)
      refine ⟨_, rfl, _, rfl, a, _, _, _, rfl, rfl, s2.seq ha, ac, _, rfl, _, _, rfl, rfl, c, _, rfl, by omega, by omega, fun n n0 nl => ?_⟩
      have ed := emod_in n (m := d) (by omega)
      have e3 := emod_in (n / 7) (m := 3) (by decide)
      have e11 := emod_in (n / 11) (m := 3) (by decide)
      obtain ⟨m3, hm3, m31, m32⟩ := pick3a e3.1 e3.2
      obtain ⟨m5, hm5, m51, m52⟩ := pick3b e11.1 e11.2
      have ea := emod_in (n / 60) (m := m3) (by omega)
      have eb := emod_in (n / 3600) (m := m5) (by omega)
      refine ⟨_, rfl, _, rfl, _, _, rfl, rfl, (by show 0 < d; omega), ?_⟩
      refine ⟨_, rfl, _, _, rfl, rfl, _, rfl, _, rfl, _, _, rfl, rfl, ⟨by decide, b9⟩, (by show 3 ≤ sizeLine; decide), fun z1 h1 => ?_⟩
      have t1 := Same.upd (o := .lst [.int 2, .int 4, .int 60]) h1
      refine ⟨_, rfl, _, _, rfl, rfl, ⟨by decide, b9⟩, _, _, rfl, rfl, (by show (0 : Int) < 3; decide), z1, _, _, _, rfl, rfl, SqL.of upd_same, hm3, _, _, rfl, rfl, (by show 0 < m3; omega), _, _, rfl, rfl, _, _, rfl, ?_⟩
      generalize hla : (if n % d + n / 60 % m3 < d - 1 then n % d + n / 60 % m3 else d - 1) = la
      have lb : n % d ≤ la ∧ la < d := by
        rw [← hla]
        split <;> omega
      have hl3 := t1 _ _ hl2
      refine ⟨_, rfl, .inl ⟨rfl, _, SqL.of hl3⟩, _, rfl, _, rfl, b, _, _, _, rfl, rfl, (s2.trans t1).seq hb, ax, _, rfl, _, rfl, _, rfl, _, _, rfl, rfl, ⟨by decide, b9⟩, (by show 3 ≤ sizeLine; decide), fun z2 h2 => ?_⟩
      have t2 := Same.upd (o := .lst [.int 2, .int 6, .int 50]) h2
      refine ⟨_, rfl, _, _, rfl, rfl, ⟨by decide, b9⟩, _, _, rfl, rfl, (by show (0 : Int) < 3; decide), z2, _, _, _, rfl, rfl, SqL.of upd_same, hm5, _, _, rfl, rfl, (by show 0 < m5; omega), _, _, rfl, rfl, (by show 4 ≤ sizeLine; decide), fun q hq => ?_⟩
      have t3 := Same.upd (o := .tup [.str x, .int (n % d), .int la, .int (1 + n / 3600 % m5)]) hq
      have tt := (t1.trans t2).trans t3
      have hl4 := t3 _ _ (t2 _ _ hl3)
      have ql : q ≠ l := fun e => by rw [e, t2 _ _ hl3] at hq; cases hq
      refine ⟨l, _, _, rfl, rfl, hl4, small1000 (by rw [List.length_map]; omega), ?_⟩
      exact ⟨us ++ [q], _, _, _, _, rfl, same_own (s2.trans tt) hl, by rw [List.map_append]; exact upd_same, by rw [List.length_append, ul]; rfl, by rw [List.take_add_one, hx]; exact ((ol.keep tt.tk).keep (Tk.lst hl4)).add (by rw [upd_ne ql]; exact upd_same) wx ⟨ed.1, lb.1, lb.2, by omega, by omega⟩⟩
    · rintro σ H2 ⟨us, v4, v5, v6, v7, rfl, s2, hl2, ul, ol⟩
      exact ⟨_, rfl, k l us _ _ (ol.od (wn.sublist (List.take_sublist _ _)) (by omega)) s2 hl hl2⟩
theorem ndOne : (["_law_one"] : List Str).Nodup := by decide +kernel
theorem scOrdBy : FnScope ["_law_cells", "_law_days", "_law_found", "_law_cell", "_law_name", "_law_left", "_law_first", "_law_last"] ["_law_cells", "_law_days"] (defScope sOrdBy) := ⟨rfl, rfl, rfl, by decide +kernel, rfl, by decide +kernel, by decide +kernel⟩
theorem ok_ordby {f : Addr} {fd : FuncData} (F : Fun K "_law_orders_by" "_law_orders_by" sOrdBy f fd) (T : Txt mg) (cW : Cal P w K mg base CX0 1 "_law_word_by" ["_law_left"] spWord) : FnOk P w K mg base CX0 2 f fd ["_law_cells", "_law_days"] (spOrdBy K) := by
  refine F.ok scOrdBy (fun vs H Q E h => ?_) (fun cdv A outer s H vs Q E hr h => ?_)
  · obtain ⟨_, _, _, rfl, _⟩ := h
    rfl
  · obtain ⟨a, ns, d, rfl, ha, nl, d1, d60, k⟩ := h
    refine ⟨_, (pss_cons (ps_set (i := 2) scOrdBy.nd rfl (Or.inl rfl) (pe_lst pa_nil))
      (pss_cons (ps_for PassesOwn.never rfl (pi_list (pv 0)) (pg_name (i := 3) scOrdBy.nd rfl (Or.inl rfl))
        (pss_cons (ps_asg (pe_cal cW hr rfl pass0 (pa_cons (pe_callB call_abs rfl T.abs' bt_abs (pa_cons (pv 3) pa_nil)) pa_nil)) (pg_tup rfl (pgs_cons (pg_name (i := 4) scOrdBy.nd rfl (Or.inl rfl)) (pgs_cons (pg_name (i := 5) scOrdBy.nd rfl (Or.inl rfl)) pgs_nil))))
        (pss_cons (ps_set (i := 6) scOrdBy.nd rfl (Or.inl rfl) (pe_op op_mod (pv 5) (pv 1)))
        (pss_cons (ps_set (i := 5) scOrdBy.nd rfl (Or.inl rfl) (pe_op op_fdivB (pv 5) (pv 1)))
        (pss_cons (ps_set (i := 7) scOrdBy.nd rfl (Or.inl rfl) (pe_op op_add (pv 6) (pe_op op_mod (pv 5) (pe_op op_sub (pv 1) (pv 6)))))
        (pss_one (ps_if (pt_cmpR op_notIn_seq (pv 4) (pe_comp (N' := ["_law_one"]) (cl := []) (fun _ => [none]) rfl rfl (by decide +kernel) (by decide +kernel) (clOk_plain (by decide +kernel)) (fun _ _ => blkN_none)
            (pi_list (pv 2)) (fun _ _ _ _ _ => pg_name (i := 0) ndOne rfl (Or.inl rfl)) (fun _ _ _ _ _ => pifs_nil) (fun _ _ _ _ _ => pe_ix (ix_tupK (K := K) rfl) (pv 0) pe_int (fun _ _ => rfl))) (by with_unfolding_all rfl))
          (pss_one (ps_expr (pe_bm PySem.F.plainAttrs_list PySem.F.slot_list_append PySem.F.type_list_append mt_append (pv 2) (pa_cons (pe_tup (pa_cons (pv 4) (pa_cons (pv 6) (pa_cons (pv 7) (pa_cons (pe_op op_add pe_int (pe_op op_mod (pe_op op_fdivB (pv 5) (pe_op op_sub (pv 1) (pv 6))) pe_int)) pa_nil))))) pa_nil))))
          pss_nil)))))))
      (pss_one (ps_ret (pv 2))))), ?_⟩
    refine ⟨(by show 0 ≤ sizeLine; decide), fun g hg => ?_⟩
    have s0 := Same.upd (o := .lst []) hg
    refine ⟨_, rfl, a, rfl, ⟨_, s0.seq ha⟩, ?_⟩
    refine for_list (xs := ns.map V.int) (fun i σ H' => ∃ (us : List Addr) (xs : List Str) (v3 v4 v5 v6 v7 : Option V), σ = [some (.ref a), some (.int d), some (.ref g), v3, v4, v5, v6, v7] ∧ Same H H' ∧ H' g = some (.lst (us.map V.ref)) ∧ us.length ≤ i ∧ OrdN H' d us xs ∧ xs.Nodup)
      ⟨[], [], none, none, none, none, none, rfl, s0, upd_same, Nat.le_refl _, OrdN.nil, List.nodup_nil⟩ ?_ ?_ ?_
    · rintro i σ H' _ ⟨_, _, _, _, _, _, _, rfl, s', _⟩
      exact s'.seq ha
    · rintro i v σ H2 hv ⟨us, xs, v3, v4, v5, v6, v7, rfl, s2, hg2, ul, ol, xn⟩
      have i44 : i < 40 := by have := (List.getElem?_eq_some_iff.mp hv).1; rw [List.length_map] at this; omega
      rw [List.getElem?_map] at hv
      obtain ⟨c, hc, rfl⟩ := Option.map_eq_some_iff.mp hv
      refine ⟨_, rfl, c, rfl, _, rfl, abs_nn c, fun x n p H3 n0 wx s3 hp => ?_⟩
      refine ⟨p, _, rfl, SqT.of hp, rfl, _, _, rfl, _, _, rfl, rfl, ?_⟩
      have e1 := emod_in n (m := d) (by omega)
      have n1 : 0 ≤ n / d := Int.ediv_nonneg n0 (by omega)
      have e2 := emod_in (n / d) (m := d - n % d) (by omega)
      refine ⟨_, rfl, _, rfl, _, _, rfl, rfl, (by show 0 < d; omega), ?_⟩
      refine ⟨_, rfl, _, rfl, _, _, rfl, rfl, ⟨by show 0 < d; omega, (bt_lt 64 (c := 100) (by omega) (by omega)).mono (by decide)⟩, ?_⟩
      refine ⟨_, rfl, _, rfl, _, rfl, _, rfl, _, _, rfl, rfl, _, _, rfl, rfl, (by show 0 < d - n % d; omega), _, _, rfl, rfl, ?_⟩
      have hg3 := s3 _ _ hg2
      refine ⟨_, rfl, _, rfl, g, rfl, ⟨_, SqL.of hg3⟩, fun D hD => ?_⟩
      refine comp_rel (Ys.list (SqL.of hg3)) (fun j _ y _ => ∃ x : Str, xs[j]? = some x ∧ y = .str x) (fun _ _ _ _ _ h _ => h) hD (by rw [List.length_map]; omega) (fun j y H4 R hy sm hR => ?_) (fun ys H4 sm hD4 yl hy => ?_)
      · rw [List.getElem?_map] at hy
        obtain ⟨q, hq', rfl⟩ := Option.map_eq_some_iff.mp hy
        obtain ⟨x', hx', f', l', m', hq, _⟩ := paired_get (ol.keep s3.tk) hq'
        exact ⟨(Keep.refl _).set rfl, _, rfl, q, _, _, _, rfl, rfl, SqT.of (sm _ _ hq), rfl, hR _ _ (Same.refl _) ⟨x', hx', rfl⟩⟩
      · have le := paired_len ol
        rw [List.length_map] at yl
        have ey : ys = xs.map V.str := by
          refine list_eq (by rw [List.length_map]; omega) fun j u y hu hj => ?_
          obtain ⟨v, hv⟩ : ∃ v, us[j]? = some v := ⟨_, List.getElem?_eq_getElem (by have := (List.getElem?_eq_some_iff.mp hj).1; omega)⟩
          obtain ⟨x', hx', rfl⟩ := hy j (.ref v) y (by rw [List.getElem?_map, hv]; rfl) hj
          rw [List.getElem?_map, hx'] at hu
          exact Option.some.inj hu
        have fl : ys.all flatV = true := by rw [ey]; exact flat_strs xs
        have hg4 := sm _ _ hg3
        have s4 := (s2.trans s3).trans sm
        have ol4 := (ol.keep s3.tk).keep sm.tk
        refine ⟨D, ys, rfl, .inl (SqL.of hD4), rfl, fl, _, rfl, ite2 (fun hb => ?_) (fun _ => ⟨us, xs, _, _, _, _, _, rfl, s4, hg4, by omega, ol4, xn⟩)⟩
        have nx : x ∉ xs := fun z => by
          have z' := in_strs.mpr z
          rw [ey] at hb
          simp [z'] at hb
        have e5 := emod_in (n / d / (d - n % d)) (m := 50) (by decide)
        refine ⟨_, rfl, .inl ⟨rfl, _, SqL.of hg4⟩, _, rfl, _, rfl, _, rfl, _, rfl, _, rfl, _, rfl, _, _, rfl, rfl, _, _, rfl, rfl, ⟨by show 0 < d - n % d; omega, (bt_lt 64 (c := 100) (by omega) (by omega)).mono (by decide)⟩, _, _, rfl, rfl, (by show (0 : Int) < 50; decide), _, _, rfl, rfl, (by show 4 ≤ sizeLine; decide), fun q hq => ?_⟩
        have t5 := Same.upd (o := .tup [.str x, .int (n % d), .int (n % d + n / d % (d - n % d)), .int (1 + n / d / (d - n % d) % 50)]) hq
        have hg5 := t5 _ _ hg4
        have qg : q ≠ g := fun e => by rw [e, hg4] at hq; cases hq
        refine ⟨g, _, _, rfl, rfl, hg5, small1000 (by rw [List.length_map]; omega), ?_⟩
        exact ⟨us ++ [q], xs ++ [x], _, _, _, _, _, rfl, same_own (s4.trans t5) hg, by rw [List.map_append]; exact upd_same, by rw [List.length_append]; show us.length + 1 ≤ _; omega, ((ol4.keep t5.tk).keep (Tk.lst hg5)).add (by rw [upd_ne qg]; exact upd_same) wx ⟨e1.1, by omega, by omega, by omega, by omega⟩, nodup_snoc xn nx⟩
    · rintro σ H2 ⟨us, xs, v3, v4, v5, v6, v7, rfl, s2, hg2, ul, ol, xn⟩
      rw [List.length_map] at ul
      exact ⟨_, rfl, k g us _ _ (ol.od xn (by omega)) s2 hg hg2⟩
end
end K86

namespace K86
open PySem PySem.Spec PyProof.Rows L2 GM TM
/-- a plan: days of names -/
structure Pl (K : PySem.W.Frag) (H : Hp) (p : Addr) (qs : List Addr) (ws : List (List Str)) : Prop where
  ls : SqL K H p (qs.map V.ref)
  pr : Paired (fun q (w : List Str) => H q = some (.lst (w.map V.str))) qs ws
  ln : qs.length ≤ 60
theorem Pl.keep {K : PySem.W.Frag} {H H' : Hp} {p : Addr} {qs : List Addr} {ws : List (List Str)} (h : Pl K H p qs ws) (s : Same H H') : Pl K H' p qs ws := ⟨s.seq h.ls, paired_mono (fun q w e => s _ _ e) h.pr, h.ln⟩
def usd (ws : List (List Str)) (x : Str) : Int := (ws.map fun w => (w.count x : Int)).sum
theorem cnt (x : Str) : ∀ w : List Str, (w.map V.str).countP (fun z => eqV z (.str x)) = w.count x
  | [] => rfl
  | y :: w => by
    rw [List.map_cons, List.countP_cons, cnt x w, List.count_cons]
    rfl
def spUsed (K : PySem.W.Frag) : Sp := fun vs H Q _ => ∃ p qs ws x, vs = [.ref p, .str x] ∧ Pl K H p qs ws ∧ ∀ H', Same H H' → Q (.int (usd ws x)) H'
def wi (g : Addr → O4) (lo hi : Int) (a : Addr) : Bool := decide (lo ≤ (g a).f) && decide ((g a).l ≤ hi)
def wiV (g : Addr → O4) (lo hi : Int) : V → Bool
  | .ref a => wi g lo hi a
  | _ => false
def spWithin (K : PySem.W.Frag) : Sp := fun vs H Q _ => ∃ p as g d lo hi, vs = [.ref p, .int lo, .int hi] ∧ SqL K H p (as.map V.ref) ∧ Od H d as g ∧ ∀ q H', Same H H' → H q = none → H' q = some (.lst ((as.filter (wi g lo hi)).map V.ref)) → Q (.ref q) H'
def lk (g : Addr → O4) (ws : List (List Str)) (a : Addr) : Int := (g a).m - usd ws (g a).x
def lf1 (g : Addr → O4) (ws : List (List Str)) (a : Addr) : Option (Str × Int) := if 0 < lk g ws a then some ((g a).x, lk g ws a) else none
def lft (g : Addr → O4) (ws : List (List Str)) (as : List Addr) : List (Str × Int) := as.filterMap (lf1 g ws)
theorem lft_snoc {g : Addr → O4} {ws : List (List Str)} {as : List Addr} {i : Nat} {a : Addr} (h : as[i]? = some a) : lft g ws (as.take (i + 1)) = lft g ws (as.take i) ++ (lf1 g ws a).toList := by
  unfold lft
  rw [List.take_add_one, h, List.filterMap_append]
  congr 1
theorem lft_sub {g : Addr → O4} {ws : List (List Str)} : ∀ as : List Addr, ((lft g ws as).map (·.1)).Sublist (as.map fun a => (g a).x)
  | [] => List.Sublist.refl _
  | a :: as => by
    have ih := lft_sub (g := g) (ws := ws) as
    show ((List.filterMap (lf1 g ws) (a :: as)).map (·.1)).Sublist ((g a).x :: as.map fun a => (g a).x)
    rw [List.filterMap_cons]
    cases e : lf1 g ws a with
    | none => exact ih.trans (List.sublist_cons_self _ _)
    | some b =>
      have eb : b.1 = (g a).x := by
        unfold lf1 at e
        split at e
        · cases e; rfl
        · cases e
      show (b.1 :: (List.filterMap (lf1 g ws) as).map (·.1)).Sublist _
      rw [eb]
      exact List.Sublist.cons₂ _ ih
def PrS (H : Hp) (bs : List Addr) (zs : List (Str × Int)) : Prop := Paired (fun b (z : Str × Int) => H b = some (.tup [.str z.1, .int z.2])) bs zs
theorem PrS.keep {H H' : Hp} {bs : List Addr} {zs : List (Str × Int)} (h : PrS H bs zs) (s : Tk H H') : PrS H' bs zs := paired_mono (fun b z e => s _ _ e) h
def pr2 (H : Hp) (b : Addr) : Str × Int := match H b with
  | some (.tup [.str x, .int n]) => (x, n)
  | _ => (⟨#[]⟩, 0)
theorem pr2_eq {H : Hp} {b : Addr} {z : Str × Int} (h : H b = some (.tup [.str z.1, .int z.2])) : pr2 H b = z := by unfold pr2; rw [h]
theorem PrS.map {H : Hp} : ∀ {bs : List Addr} {zs : List (Str × Int)}, PrS H bs zs → zs = bs.map (pr2 H)
  | _, _, .nil => rfl
  | _, _, .cons e t => by rw [List.map_cons, ← PrS.map t, pr2_eq e]
theorem PrS.all {H : Hp} : ∀ {bs : List Addr} {zs : List (Str × Int)}, PrS H bs zs → ∀ b ∈ bs, H b = some (.tup [.str (pr2 H b).1, .int (pr2 H b).2])
  | _, _, .nil => fun b h => nomatch h
  | _, _, .cons e t => fun b hb => by
    rcases List.mem_cons.mp hb with rfl | hb
    · rw [pr2_eq e]; exact e
    · exact PrS.all t b hb
theorem PrS.of {H : Hp} : ∀ {bs : List Addr}, (∀ b ∈ bs, H b = some (.tup [.str (pr2 H b).1, .int (pr2 H b).2])) → PrS H bs (bs.map (pr2 H))
  | [], _ => .nil
  | b :: bs, h => .cons (h b (List.mem_cons_self ..)) (PrS.of fun c hc => h c (List.mem_cons_of_mem _ hc))
def resLeft (H : Hp) (g : Addr → O4) (ws : List (List Str)) (as : List Addr) (Q : VK) : Prop :=
  ∀ q bs zs H', Same H H' → H q = none → H' q = some (.lst (bs.map V.ref)) → PrS H' bs zs → zs.Perm (lft g ws as) → (zs.Pairwise fun u v => u.1.cps.toList < v.1.cps.toList) → Q (.ref q) H'
def spLeftBy (K : PySem.W.Frag) : Sp := fun vs H Q _ => ∃ p as g d o qs ws, vs = [.ref p, .ref o] ∧ SqL K H p (as.map V.ref) ∧ Od H d as g ∧ Pl K H o qs ws ∧ resLeft H g ws as Q
def spLeft (K : PySem.W.Frag) : Sp := fun vs H Q _ => ∃ p as g d o qs ws, vs = [.ref o, .ref p] ∧ SqL K H p (as.map V.ref) ∧ Od H d as g ∧ Pl K H o qs ws ∧ resLeft H g ws as Q
theorem filt0 : ∀ l : List V, (l.filter fun _ => false).length = 0
  | [] => rfl
  | _ :: l => filt0 l
def spPairs : Sp := fun vs H Q _ => ∃ p q bs bs' zs, vs = [.ref p, .ref q] ∧ H p = some (.lst (bs.map V.ref)) ∧ H q = some (.lst (bs'.map V.ref)) ∧ PrS H bs zs ∧ PrS H bs' zs ∧ bs.length ≤ 60 ∧ ∀ H', Same H H' → Q (.bl true) H'
section
variable {P : Program} {w : World} {K : PySem.W.Frag} {mg : Str → Option Value} {base : Heap}
theorem cnts_eq {ys : List V} {ws : List (List Str)} {x : Str} (l : ys.length = ws.length) (h : ∀ (j : Nat) y, ys[j]? = some y → ∃ w, ws[j]? = some w ∧ y = .int (w.count x : Int)) : ys = (ws.map fun w => (w.count x : Int)).map V.int := by
  refine list_eq (by rw [List.length_map, List.length_map]; exact l) fun j u y hu hy => ?_
  obtain ⟨w, hw, rfl⟩ := h j y hy
  rw [List.getElem?_map, List.getElem?_map, hw] at hu
  exact Option.some.inj hu
theorem ndLb : (["names", "name"] : List Str).Nodup := by decide +kernel
theorem scLeftBy : FnScope ["orders", "plan", "found", "name", "first", "last", "many", "lacking"] ["orders", "plan"] (defScope sLeftBy) := ⟨rfl, rfl, rfl, by decide +kernel, rfl, by decide +kernel, by decide +kernel⟩
theorem ok_leftby {f : Addr} {fd : FuncData} (F : Fun K "left_by" "left_by" sLeftBy f fd) (T : Txt mg) : FnOk P w K mg base CX0 1 f fd ["orders", "plan"] (spLeftBy K) := by
  refine F.ok scLeftBy (fun vs H Q E h => ?_) (fun cdv A outer s H vs Q E hr h => ?_)
  · obtain ⟨_, _, _, _, _, _, _, rfl, _⟩ := h
    rfl
  · obtain ⟨p, as, g, d, o, qs, ws, rfl, hp, od, pl, k⟩ := h
    refine ⟨_, (pss_cons (ps_set (i := 2) scLeftBy.nd rfl (Or.inl rfl) (pe_lst pa_nil))
      (pss_cons (ps_for PassesOwn.never rfl (pi_list (pv 0)) (pg_tup rfl (pgs_cons (pg_name (i := 3) scLeftBy.nd rfl (Or.inr rfl)) (pgs_cons (pg_name (i := 4) scLeftBy.nd rfl (Or.inl rfl)) (pgs_cons (pg_name (i := 5) scLeftBy.nd rfl (Or.inl rfl)) (pgs_cons (pg_name (i := 6) scLeftBy.nd rfl (Or.inl rfl)) pgs_nil)))))
        (pss_cons (ps_set (i := 7) scLeftBy.nd rfl (Or.inl rfl) (pe_op op_sub (pv 6) (pe_callB (call_sum rfl) rfl T.sum' boot_sum (pa_cons (pe_compC (N' := ["names", "name"]) (fun σ => [none, some 3].map fun t => t.bind fun j => (σ[j]?).join) rfl rfl (by decide +kernel) (by decide +kernel)
          (hk_of (sc := defScope sLeftBy) rfl (by decide +kernel)) (fun _ _ _ => blkN_by (sc := defScope sLeftBy) (N := ["orders", "plan", "found", "name", "first", "last", "many", "lacking"]) [none, some 3] rfl rfl rfl rfl (by decide +kernel))
          (pi_list (pv 1)) (fun _ _ _ _ _ _ => pg_name (i := 0) ndLb rfl (Or.inl rfl)) (fun _ _ _ _ _ _ => pifs_nil)
          (fun _ _ _ _ _ _ => pe_bmK (K := K) rfl PySem.F.plainAttrs_list PySem.F.slot_list_count PySem.F.type_list_count mt_count (pv 0) (pa_cons (pv 1) pa_nil))) pa_nil))))
        (pss_one (ps_if (pt_cmpR op_gt (pv 7) pe_int (nomark _))
          (pss_one (ps_expr (pe_bm PySem.F.plainAttrs_list PySem.F.slot_list_append PySem.F.type_list_append mt_append (pv 2) (pa_cons (pe_tup (pa_cons (pv 3) (pa_cons (pv 7) pa_nil))) pa_nil))))
          pss_nil))))
      (pss_one (ps_ret (pe_callB call_sortT rfl T.sorted' boot_sorted (pa_cons (pv 2) pa_nil)))))), ?_⟩
    have ln := od.ln
    have ll := paired_len pl.pr
    have l6 := pl.ln
    refine ⟨(by show 0 ≤ sizeLine; decide), fun l hl => ?_⟩
    have s0 := Same.upd (o := .lst []) hl
    refine ⟨_, rfl, p, rfl, ⟨_, s0.seq hp⟩, ?_⟩
    refine for_list (xs := as.map V.ref) (fun i σ H' => ∃ (bs : List Addr) (v3 v4 v5 v6 v7 : Option V), σ = [some (.ref p), some (.ref o), some (.ref l), v3, v4, v5, v6, v7] ∧ Same H H' ∧ H' l = some (.lst (bs.map V.ref)) ∧ bs.length ≤ i ∧ PrS H' bs (lft g ws (as.take i)))
      ⟨[], none, none, none, none, none, rfl, s0, upd_same, Nat.le_refl _, .nil⟩ ?_ ?_ ?_
    · rintro i σ H' _ ⟨_, _, _, _, _, _, rfl, s', _⟩
      exact s'.seq hp
    · rintro i v σ H2 hv ⟨bs, v3, v4, v5, v6, v7, rfl, s2, hl2, bl', pr⟩
      rw [List.getElem?_map] at hv
      obtain ⟨a, ha, rfl⟩ := Option.map_eq_some_iff.mp hv
      have hi := (List.getElem?_eq_some_iff.mp ha).1
      have e := s2 _ _ (od.tp a (List.mem_of_getElem? ha))
      refine ⟨a, _, rfl, SqT.of e, rfl, _, _, rfl, _, _, rfl, _, _, rfl, _, _, rfl, rfl, ?_⟩
      have pl2 := pl.keep s2
      refine ⟨_, rfl, _, rfl, o, rfl, ⟨_, pl2.ls⟩, fun D hD => ?_⟩
      refine comp_rel (Ys.list pl2.ls) (fun j _ y _ => ∃ w, ws[j]? = some w ∧ y = .int (w.count (g a).x : Int)) (fun _ _ _ _ _ h _ => h) hD (by rw [List.length_map]; omega) (fun i v H' R hv sm hR => ?_) (fun ys H5 sm hD5 yl hy => ?_)
      · rw [List.getElem?_map] at hv
        obtain ⟨q, hq, rfl⟩ := Option.map_eq_some_iff.mp hv
        obtain ⟨w, hw, e⟩ := paired_get (pl2.keep sm).pr hq
        exact ⟨(Keep.refl _).set rfl, _, rfl, .inl ⟨rfl, _, SqL.of e⟩, _, rfl, q, _, .str (g a).x, rfl, rfl, e, rfl, flat_strs w, hR _ _ (Same.refl _) ⟨w, hw, by rw [cnt]⟩⟩
      · rw [List.length_map] at yl
        have ey := cnts_eq (ys := ys) (x := (g a).x) (ws := ws) (by omega) fun j y hj => by
          obtain ⟨q, hq⟩ : ∃ q, qs[j]? = some q := ⟨_, List.getElem?_eq_getElem (by have := (List.getElem?_eq_some_iff.mp hj).1; omega)⟩
          exact hy j (.ref q) y (by rw [List.getElem?_map, hq]; rfl) hj
        rw [ey] at hD5
        have hl5 := sm _ _ hl2
        have s5 := s2.trans sm
        refine ⟨D, _, rfl, SqL.of hD5, _, _, rfl, rfl, ?_⟩
        dsimp only [gName]
        refine st [some (.ref p), some (.ref o), some (.ref l), some (.str (g a).x), some (.int (g a).f), some (.int (g a).l), some (.int (g a).m), some (.int (lk g ws a))] rfl ?_
        refine ⟨_, rfl, _, _, rfl, rfl, _, rfl, ite2 (fun hb => ?_) (fun hb => ?_)⟩
        · have pos : 0 < lk g ws a := of_decide_eq_true hb
          refine ⟨_, rfl, .inl ⟨rfl, _, SqL.of hl5⟩, _, rfl, _, rfl, (by show 2 ≤ sizeLine; decide), fun q hq => ?_⟩
          have t5 := Same.upd (o := .tup [.str (g a).x, .int (lk g ws a)]) hq
          have hl6 := t5 _ _ hl5
          have ql : q ≠ l := fun z => by rw [z, hl5] at hq; cases hq
          refine ⟨l, _, _, rfl, rfl, hl6, small1000 (by rw [List.length_map]; omega), ?_⟩
          refine ⟨bs ++ [q], _, _, _, _, _, rfl, same_own (s5.trans t5) hl, by rw [List.map_append]; exact upd_same, by rw [List.length_append]; show bs.length + 1 ≤ _; omega, ?_⟩
          rw [lft_snoc ha, show lf1 g ws a = some ((g a).x, lk g ws a) by unfold lf1; rw [if_pos pos]]
          exact paired_snoc (((pr.keep sm.tk).keep t5.tk).keep (Tk.lst hl6)) (by rw [upd_ne ql]; exact upd_same)
        · have pos : ¬ 0 < lk g ws a := fun z => hb (decide_eq_true z)
          refine ⟨bs, _, _, _, _, _, rfl, s5, hl5, by omega, ?_⟩
          rw [lft_snoc ha, show lf1 g ws a = none by unfold lf1; rw [if_neg pos], Option.toList_none, List.append_nil]
          exact pr.keep sm.tk
    · rintro σ H2 ⟨bs, v3, v4, v5, v6, v7, rfl, s2, hl2, bl', pr⟩
      rw [List.length_map] at bl'
      rw [List.length_map, List.take_length] at pr
      have em := pr.map
      have nm : ∀ b ∈ bs, nmH H2 b = (pr2 H2 b).1 := fun b hb => nmH_eq (pr.all b hb)
      have en : bs.map (nmH H2) = (lft g ws as).map (·.1) := by rw [em, List.map_map]; exact List.map_congr_left nm
      refine ⟨_, rfl, l, bs, rfl, SqL.of hl2, by omega, fun b hb => ⟨_, _, pr.all b hb⟩, ?_, fun q bs' pm so hq => ?_⟩
      · rw [en]
        exact od.nd.sublist (lft_sub as)
      · have al : ∀ b ∈ bs', H2 b = some (.tup [.str (pr2 H2 b).1, .int (pr2 H2 b).2]) := fun b hb => pr.all b (pm.mem_iff.mp hb)
        have t1 := Same.upd (o := .lst (bs'.map V.ref)) hq
        refine k q bs' _ _ (s2.trans t1) (same_none s2 hq) upd_same ((PrS.of al).keep t1.tk) ?_ ?_
        · rw [em]
          exact pm.map _
        · rw [List.pairwise_map]
          refine so.imp_of_mem fun hu hv h => ?_
          rw [nm _ (pm.mem_iff.mp hu), nm _ (pm.mem_iff.mp hv)] at h
          exact h
end
end K86

namespace K86
open PySem PySem.Spec PyProof.Rows L2 GM TM
/-- a paper: runs of days -/
def Pp (H : Hp) (bs : List Addr) (ps : List (Int × Int)) : Prop := Paired (fun b (z : Int × Int) => H b = some (.tup [.int z.1, .int z.2])) bs ps
theorem Pp.keep {H H' : Hp} {bs : List Addr} {ps : List (Int × Int)} (h : Pp H bs ps) (s : Tk H H') : Pp H' bs ps := paired_mono (fun b z e => s _ _ e) h
structure Ck (d : Int) (ps : List (Int × Int)) : Prop where
  al : ∀ z ∈ ps, 0 ≤ z.1 ∧ z.1 ≤ z.2 ∧ z.2 < d
  pw : ps.Pairwise fun u v => u.2 + 2 ≤ v.1
def spIsPaper : Sp := fun vs H Q _ => ∃ p d bs ps, vs = [.ref p, .int d] ∧ H p = some (.lst (bs.map V.ref)) ∧ Pp H bs ps ∧ Ck d ps ∧ ∀ H', Same H H' → Q (.bl true) H'
def cutN (ns : List Int) (lo hi : Option Int) : List Int := (ns.drop (HT.sIx ns.length 0 lo)).take (HT.sIx ns.length ns.length hi - HT.sIx ns.length 0 lo)
theorem cutN_eq (ns : List Int) (lo hi : Option Int) : cutV (ns.map V.int) lo hi = (cutN ns lo hi).map V.int := by
  unfold cutV cutN
  rw [List.length_map, List.map_take, List.map_drop]
def trs (ns : List Int) (lo hi : Int) : Int := (cutN ns (some lo) (some (hi + 1))).sum
def wsum (g : Addr → O4) (lo hi : Int) (as : List Addr) : Int := ((as.filter (wi g lo hi)).map fun a => (g a).m).sum
def prc (g : Addr → O4) (as : List Addr) (ns : List Int) (ps : List (Int × Int)) : Int := (ps.map fun z => wsum g z.1 z.2 as - trs ns z.1 z.2).sum
def spPrice (K : PySem.W.Frag) : Sp := fun vs H Q _ => ∃ o as g d t ns p bs ps, vs = [.ref o, .ref t, .ref p] ∧ SqL K H o (as.map V.ref) ∧ Od H d as g ∧ SqL K H t (ns.map V.int) ∧ SqL K H p (bs.map V.ref) ∧ Pp H bs ps ∧ ∀ H', Same H H' → Q (.int (prc g as ns ps)) H'
section
variable {P : Program} {w : World} {K : PySem.W.Frag} {mg : Str → Option Value} {base : Heap}
end
end K86

namespace K86
open PySem PySem.Spec PyProof.Rows L2 GM TM
theorem snoc_get {α : Type} {ws : List α} {w' w : α} {i : Nat} (h : (ws ++ [w'])[i]? = some w) : ws[i]? = some w ∨ (i = ws.length ∧ w = w') := by
  by_cases l : i < ws.length
  · rw [List.getElem?_append_left l] at h
    exact .inl h
  · rw [List.getElem?_append_right (by omega)] at h
    have z : i - ws.length = 0 := by
      have := (List.getElem?_eq_some_iff.mp h).1
      simp at this
      omega
    rw [z] at h
    simp at h
    exact .inr ⟨by omega, h.symm⟩
theorem nd_inj {α β : Type} {f : α → β} : ∀ {as : List α}, (as.map f).Nodup → ∀ {a b : α}, a ∈ as → b ∈ as → f a = f b → a = b
  | [], _, _, _, h, _, _ => nomatch h
  | c :: as, nd, a, b, ha, hb, e => by
    rw [List.map_cons, List.nodup_cons] at nd
    rcases List.mem_cons.mp ha with h1 | h1 <;> rcases List.mem_cons.mp hb with h2 | h2
    · rw [h1, h2]
    · exact absurd (by rw [← h1, e]; exact List.mem_map_of_mem h2) nd.1
    · exact absurd (by rw [← h2, ← e]; exact List.mem_map_of_mem h1) nd.1
    · exact nd_inj nd.2 h1 h2 e
structure Dys (g : Addr → O4) (as : List Addr) (ns : List Int) (ws : List (List Str)) : Prop where
  so : ∀ w ∈ ws, sortedS w = true
  le : ∀ (i : Nat) w n, ws[i]? = some w → ns[i]? = some n → (w.length : Int) ≤ n
  nm : ∀ (i : Nat) w x, ws[i]? = some w → x ∈ w → ∃ a ∈ as, (g a).x = x ∧ (g a).f ≤ i ∧ (i : Int) ≤ (g a).l
theorem Dys.nil {g : Addr → O4} {as : List Addr} {ns : List Int} : Dys g as ns [] := ⟨(fun w h => nomatch h), fun i w n h => by simp at h, fun i w x h => by simp at h⟩
theorem Dys.add {g : Addr → O4} {as : List Addr} {ns : List Int} {ws : List (List Str)} {w' : List Str} {n : Int} (h : Dys g as ns ws) (so : sortedS w' = true) (hn : ns[ws.length]? = some n) (le : (w'.length : Int) ≤ n)
    (nm : ∀ x ∈ w', ∃ a ∈ as, (g a).x = x ∧ (g a).f ≤ (ws.length : Int) ∧ (ws.length : Int) ≤ (g a).l) : Dys g as ns (ws ++ [w']) where
  so := fun w hw => by
    rcases List.mem_append.mp hw with z | z
    · exact h.so w z
    · rw [List.mem_singleton.mp z]; exact so
  le := fun i w m hw hm => by
    rcases snoc_get hw with z | ⟨rfl, rfl⟩
    · exact h.le i w m z hm
    · rw [hn] at hm
      cases hm
      exact le
  nm := fun i w x hw hx => by
    rcases snoc_get hw with z | ⟨rfl, rfl⟩
    · exact h.nm i w x z hx
    · exact nm x hx
/-- what is still needed, in the dict of needs -/
def Nd (g : Addr → O4) (as : List Addr) (u : Str → Int) (kvs : List (Key × V)) : Prop := kvs.length ≤ 40 ∧ ∀ a ∈ as, valV kvs (Sum.inr (g a).x) = some (.int ((g a).m - u (g a).x)) ∧ u (g a).x ≤ (g a).m
theorem Nd.congr {g : Addr → O4} {as : List Addr} {u u' : Str → Int} {kvs : List (Key × V)} (h : Nd g as u kvs) (e : ∀ y, u y = u' y) : Nd g as u' kvs := ⟨h.1, fun a ha => by rw [← e]; exact h.2 a ha⟩
theorem putK_len {kvs : List (Key × V)} {k : Key} {v w : V} (h : valV kvs k = some v) : (putK kvs k w).length = kvs.length := by
  unfold putK
  rw [if_pos (by rw [valV_any, h]; rfl), List.length_map]
theorem usd_snoc (ws : List (List Str)) (w : List Str) (x : Str) : usd (ws ++ [w]) x = usd ws x + (w.count x : Int) := by
  unfold usd
  rw [List.map_append, List.sum_append]
  simp
/-- all but x and y kept -/
def Sx (x y : Addr) (H H' : Hp) : Prop := ∀ b o, b ≠ x → b ≠ y → H b = some o → H' b = some o
theorem Sx.refl {x y : Addr} {H : Hp} : Sx x y H H := fun b o _ _ h => h
theorem Sx.step {x y : Addr} {H H' H'' : Hp} (h : Sx x y H H') (s : Same H' H'') : Sx x y H H'' := fun b o h1 h2 e => s _ _ (h b o h1 h2 e)
theorem Sx.up1 {x y : Addr} {H H' : Hp} {o : HO} (h : Sx x y H H') : Sx x y H (upd H' x o) := fun b u h1 h2 e => by rw [upd_ne h1]; exact h b u h1 h2 e
theorem Sx.up2 {x y : Addr} {H H' : Hp} {o : HO} (h : Sx x y H H') : Sx x y H (upd H' y o) := fun b u h1 h2 e => by rw [upd_ne h2]; exact h b u h1 h2 e
structure PlOk (g : Addr → O4) (as : List Addr) (ns : List Int) (ws : List (List Str)) : Prop extends Dys g as ns ws where
  ln : ws.length = ns.length
  us : ∀ a ∈ as, usd ws (g a).x ≤ (g a).m
abbrev DyP (H : Hp) (p n : Addr) : List Addr → List (List Str) → Prop := Paired (fun q (w : List Str) => H q = some (.lst (w.map V.str)) ∧ q ≠ p ∧ q ≠ n)
def lamP : Pos := ⟨18, 38, 18, 60⟩
def somV (g : Addr → O4) (u : Str → Int) (i : Int) : V → Bool
  | .ref a => decide ((g a).f ≤ i) && decide (i ≤ (g a).l) && decide (0 < (g a).m - u (g a).x)
  | _ => false
section
variable {P : Program} {w : World} {K : PySem.W.Frag} {mg : Str → Option Value} {base : Heap}
end
end K86

namespace K86
open PySem PySem.Spec PyProof.Rows L2 GM TM
theorem valV_none {κ : Type} [DecidableEq κ] {k : κ} : ∀ {kvs : List (κ × V)}, valV kvs k = none ↔ k ∉ kvs.map (·.1)
  | [] => by simp [valV]
  | p :: r => by
    by_cases e : p.1 = k
    · rw [valV_pos e]
      simp [e]
    · rw [valV_neg e, valV_none (kvs := r), List.map_cons, List.mem_cons]
      constructor
      · rintro h (z | z)
        · exact e z.symm
        · exact h z
      · exact fun h z => h (.inr z)
theorem key_inl {kvs : List (Key × V)} {ns : List Int} (h : kvs.map (·.1) = ns.map Sum.inl) (n : Int) : valV kvs (Sum.inl n) = none ↔ n ∉ ns := by
  rw [valV_none, h]
  simp
theorem key_inr {kvs : List (Key × V)} {ss : List Str} (h : kvs.map (·.1) = ss.map Sum.inr) (x : Str) : valV kvs (Sum.inr x) = none ↔ x ∉ ss := by
  rw [valV_none, h]
  simp
theorem keys_put {kvs : List (Key × V)} {k : Key} {v : V} (h : valV kvs k = none) : (putK kvs k v).map (·.1) = kvs.map (·.1) ++ [k] := by
  rw [putK_new v h, List.map_append]
  rfl
theorem rng_len (a : Int) (n : Nat) : (rngV a n).length = n := rngV_len a n
def spDaysOf (K : PySem.W.Frag) : Sp := fun vs H Q _ => ∃ o as g d a, vs = [.ref o, .str (g a).x] ∧ SqL K H o (as.map V.ref) ∧ Od H d as g ∧ d ≤ 60 ∧ a ∈ as ∧ ∀ p H', Same H H' → H p = none → H' p = some (.lst (rngV (g a).f ((g a).l + 1 - (g a).f).toNat)) → Q (.ref p) H'
def spPaperOf (K : PySem.W.Frag) : Sp := fun vs H Q _ => ∃ q ds d, vs = [.ref q] ∧ SqL K H q (ds.map V.int) ∧ ds.Pairwise (· < ·) ∧ (∀ e ∈ ds, 0 ≤ e ∧ e < d) ∧ ds.length ≤ 60 ∧
  ∀ p bs ps H', Same H H' → H p = none → H' p = some (.lst (bs.map V.ref)) → Pp H' bs ps → PM.Rn d ps → PM.Cov ds ps → bs.length ≤ 60 → Q (.ref p) H'
section
variable {P : Program} {w : World} {K : PySem.W.Frag} {mg : Str → Option Value} {base : Heap}
theorem scDaysOf : FnScope ["orders", "name", "other", "first", "last", "many"] ["orders", "name"] (defScope sDaysOf) := ⟨rfl, rfl, rfl, by decide +kernel, rfl, by decide +kernel, by decide +kernel⟩
theorem ok_daysof {f : Addr} {fd : FuncData} (F : Fun K "days_of" "days_of" sDaysOf f fd) (T : Txt mg) : FnOk P w K mg base CX0 1 f fd ["orders", "name"] (spDaysOf K) := by
  refine F.ok scDaysOf (fun vs H Q E h => ?_) (fun cdv A outer s H vs Q E hr h => ?_)
  · obtain ⟨_, _, _, _, _, rfl, _⟩ := h
    rfl
  · obtain ⟨o, as, g, d, a, rfl, ho, od, d60, am, k⟩ := h
    refine ⟨_, (pss_cons (ps_for PassesOwn.never rfl (pi_list (pv 0)) (pg_tup rfl (pgs_cons (pg_name (i := 2) scDaysOf.nd rfl (Or.inl rfl)) (pgs_cons (pg_name (i := 3) scDaysOf.nd rfl (Or.inl rfl)) (pgs_cons (pg_name (i := 4) scDaysOf.nd rfl (Or.inl rfl)) (pgs_cons (pg_name (i := 5) scDaysOf.nd rfl (Or.inl rfl)) pgs_nil)))))
        (pss_one (ps_if (pt_cmpR op_eq (pv 2) (pv 1) (nomark _))
          (pss_one (ps_ret (pe_listRng rfl rfl T.list' rfl T.range (pa_cons (pv 3) (pa_cons (pe_op op_add (pv 4) pe_int) pa_nil)))))
          pss_nil)))
      (pss_one (ps_ret (pe_lst pa_nil)))), ?_⟩
    refine ⟨_, rfl, o, rfl, ⟨_, ho⟩, ?_⟩
    refine for_list (xs := as.map V.ref) (fun i σ H' => ∃ (v2 v3 v4 v5 : Option V), σ = [some (.ref o), some (.str (g a).x), v2, v3, v4, v5] ∧ H' = H ∧ ∀ (j : Nat) b, j < i → as[j]? = some b → b ≠ a) ⟨none, none, none, none, rfl, rfl, fun j b hj => absurd hj (by omega)⟩ ?_ ?_ ?_
    · rintro i σ H' _ ⟨_, _, _, _, rfl, rfl, _⟩
      exact ho
    · rintro i v σ H2 hv ⟨v2, v3, v4, v5, rfl, rfl, hk⟩
      rw [List.getElem?_map] at hv
      obtain ⟨b, hb, rfl⟩ := Option.map_eq_some_iff.mp hv
      have bm := List.mem_of_getElem? hb
      have e := od.tp b bm
      refine ⟨b, _, rfl, SqT.of e, rfl, _, _, rfl, _, _, rfl, _, _, rfl, _, _, rfl, rfl, ?_⟩
      refine ⟨_, rfl, _, rfl, rfl, _, rfl, ite2 (fun hc => ?_) (fun hc => ?_)⟩
      · have ex : (g b).x = (g a).x := V.str.inj (of_decide_eq_true hc)
        have := nd_inj od.nd bm am ex
        subst this
        have ib := od.ib b bm
        obtain ⟨i1, i2, i3, i4, i5⟩ := ib
        exact ⟨_, rfl, _, rfl, _, _, rfl, rfl, _, _, rfl, ⟨by omega, by omega, by omega, by omega⟩, by omega, fun p hp => k p _ (Same.upd hp) hp upd_same⟩
      · refine ⟨_, _, _, _, rfl, rfl, fun j c hj hc' => ?_⟩
        by_cases q : j < i
        · exact hk j c q hc'
        · have : j = i := by omega
          subst this
          rw [hb] at hc'
          cases hc'
          intro z
          subst z
          exact hc (decide_eq_true rfl)
    · rintro σ H2 ⟨v2, v3, v4, v5, rfl, rfl, hk⟩
      obtain ⟨j, hj⟩ := List.mem_iff_getElem?.mp am
      exact absurd rfl (hk j a (by rw [List.length_map]; exact (List.getElem?_eq_some_iff.mp hj).1) hj)
theorem ixN_last {α : Type} (xs : List α) (v : α) : ixN (xs ++ [v]).length (-1) = some xs.length := by
  unfold ixN
  rw [List.length_append, List.length_singleton, if_neg (by omega), if_pos (by omega)]
  congr 1
  omega
theorem snoc_of {α : Type} {xs : List α} (h : xs ≠ []) : ∃ ys y, xs = ys ++ [y] := ⟨xs.dropLast, xs.getLast h, (List.dropLast_concat_getLast h).symm⟩
theorem Pp.snoc_inv {H : Hp} : ∀ {bs : List Addr} {b : Addr} {ps : List (Int × Int)}, Pp H (bs ++ [b]) ps → ∃ ps' z, ps = ps' ++ [z] ∧ Pp H bs ps' ∧ H b = some (.tup [.int z.1, .int z.2])
  | [], b, [], h => by cases h
  | [], b, z :: ps, h => by
    cases h with
    | cons e t =>
      cases t
      exact ⟨[], z, rfl, .nil, e⟩
  | c :: bs, b, [], h => by cases h
  | c :: bs, b, z :: ps, h => by
    cases h with
    | cons e t =>
      obtain ⟨ps', z', rfl, p, q⟩ := Pp.snoc_inv t
      exact ⟨z :: ps', z', rfl, .cons e p, q⟩
theorem scPaperOf : FnScope ["days", "paper", "day"] ["days"] (defScope sPaperOf) := ⟨rfl, rfl, rfl, by decide +kernel, rfl, by decide +kernel, by decide +kernel⟩
theorem ok_paperof {f : Addr} {fd : FuncData} (F : Fun K "paper_of_days" "paper_of_days" sPaperOf f fd) : FnOk P w K mg base CX0 1 f fd ["days"] (spPaperOf K) := by
  refine F.ok scPaperOf (fun vs H Q E h => ?_) (fun cdv A outer s H vs Q E hr h => ?_)
  · obtain ⟨_, _, _, rfl, _⟩ := h
    rfl
  · obtain ⟨q, ds, d, rfl, hq, pw, bd, dl, k⟩ := h
    refine ⟨_, (pss_cons (ps_set (i := 1) scPaperOf.nd rfl (Or.inl rfl) (pe_lst pa_nil))
      (pss_cons (ps_for PassesOwn.never rfl (pi_list (pv 0)) (pg_name (i := 2) scPaperOf.nd rfl (Or.inl rfl))
        (pss_one (ps_if (PW.pt (pw_and (pt_cmpR (op_neE hr.units) (pv 1) (pe_lst pa_nil) (nomark _)) (pw_and1 (pt_cmpR op_eq (pe_ix ix_tup (pe_ix ix_list (pv 1) (pe_un un_neg pe_int) (fun _ _ => rfl)) pe_int (fun _ _ => rfl)) (pe_op op_sub (pv 2) pe_int) (nomark _)))))
          (pss_one (ps_asg (pe_tup (pa_cons (pe_ix ix_tup (pe_ix ix_list (pv 1) (pe_un un_neg pe_int) (fun _ _ => rfl)) pe_int (fun _ _ => rfl)) (pa_cons (pv 2) pa_nil))) (pg_sub (pv 1) (pe_un un_neg pe_int) set_list)))
          (pss_one (ps_expr (pe_bm PySem.F.plainAttrs_list PySem.F.slot_list_append PySem.F.type_list_append mt_append (pv 1) (pa_cons (pe_tup (pa_cons (pv 2) (pa_cons (pv 2) pa_nil))) pa_nil)))))))
      (pss_one (ps_ret (pv 1))))), ?_⟩
    refine ⟨(by show 0 ≤ sizeLine; decide), fun l hl => ?_⟩
    have s0 := Same.upd (o := .lst []) hl
    refine ⟨_, rfl, q, rfl, ⟨_, s0.seq hq⟩, ?_⟩
    refine for_list (xs := ds.map V.int) (fun i σ H' => ∃ (bs : List Addr) (ps : List (Int × Int)) (v2 : Option V), σ = [some (.ref q), some (.ref l), v2] ∧ Same H H' ∧ H' l = some (.lst (bs.map V.ref)) ∧ bs.length ≤ i ∧ Pp H' bs ps ∧ PM.Rn d ps ∧ PM.Cov (ds.take i) ps)
      ⟨[], [], none, rfl, s0, upd_same, Nat.le_refl _, .nil, ⟨(fun z h => nomatch h), .nil⟩, fun e => by simp⟩ ?_ ?_ ?_
    · rintro i σ H' _ ⟨_, _, _, rfl, sm, _⟩
      exact sm.seq hq
    · rintro i v σ H2 hv ⟨bs, ps, v2, rfl, s2, hl2, bl', pp, rn, cv⟩
      rw [List.getElem?_map] at hv
      obtain ⟨e, he, rfl⟩ := Option.map_eq_some_iff.mp hv
      have il := (List.getElem?_eq_some_iff.mp he).1
      have eb := bd e (List.mem_of_getElem? he)
      have tk : ds.take (i + 1) = ds.take i ++ [e] := by rw [List.take_add_one, he]; rfl
      have lt : ∀ z ∈ ps, z.2 + 1 ≤ e := fun z hz => by
        have m := (cv z.2).mpr ⟨z, hz, (rn.al z hz).2.1, Int.le_refl _⟩
        obtain ⟨j, hj⟩ := List.mem_iff_getElem?.mp m
        rw [List.getElem?_take] at hj
        split at hj
        · rename_i hji
          obtain ⟨j1, j2⟩ := List.getElem?_eq_some_iff.mp hj
          obtain ⟨i1, i2⟩ := List.getElem?_eq_some_iff.mp he
          have := List.pairwise_iff_getElem.mp pw j i j1 i1 hji
          omega
        · cases hj
      have plen := paired_len pp
      refine ⟨_, rfl, (by show 0 ≤ sizeLine; decide), fun z hz => ?_⟩
      have t1 := Same.upd (o := .lst []) hz
      have hl3 := t1 _ _ hl2
      have zl : l ≠ z := fun q => by rw [← q, hl2] at hz; cases hz
      have new : ∀ (H3 : Hp), Same H H3 → H3 l = some (.lst (bs.map V.ref)) → Pp H3 bs ps → (∀ z ∈ ps, z.2 + 2 ≤ e) → ∀ u, H3 u = none → ∃ (bs' : List Addr) (ps' : List (Int × Int)) (v2 : Option V), [some (V.ref q), some (.ref l), some (.int e)] = [some (.ref q), some (.ref l), v2] ∧ Same H (upd (upd H3 u (.tup [.int e, .int e])) l (.lst (bs.map V.ref ++ [.ref u]))) ∧ upd (upd H3 u (.tup [.int e, .int e])) l (.lst (bs.map V.ref ++ [.ref u])) l = some (.lst (bs'.map V.ref)) ∧ bs'.length ≤ i + 1 ∧ Pp (upd (upd H3 u (.tup [.int e, .int e])) l (.lst (bs.map V.ref ++ [.ref u]))) bs' ps' ∧ PM.Rn d ps' ∧ PM.Cov (ds.take (i + 1)) ps' := by
        intro H3 s3 hl3 pp3 lt2 u hu
        obtain ⟨c1, c2⟩ := PM.cov_new cv rn eb.1 eb.2 lt2
        have t5 := Same.upd (o := .tup [.int e, .int e]) hu
        have hl6 := t5 _ _ hl3
        have ul : u ≠ l := fun z => by rw [z, hl3] at hu; cases hu
        exact ⟨bs ++ [u], ps ++ [(e, e)], _, rfl, same_own (s3.trans t5) hl, by rw [List.map_append]; exact upd_same, by rw [List.length_append]; show bs.length + 1 ≤ _; omega, paired_snoc ((pp3.keep t5.tk).keep (Tk.lst hl6)) (by rw [upd_ne ul]; exact upd_same), c2, by rw [tk]; exact c1⟩
      refine ⟨l, z, bs.map V.ref, rfl, rfl, SqL.of hl3, SqL.of upd_same, _, rfl, ite2 (fun hb => ?_) (fun hb => ?_)⟩
      · have nb : bs ≠ [] := fun z => by rw [z] at hb; exact absurd hb (by decide)
        obtain ⟨bs', b, rfl⟩ := snoc_of nb
        obtain ⟨ps', y, rfl, pp', hb'⟩ := Pp.snoc_inv pp
        have hb3 := t1 _ _ hb'
        have at1 : atI ((bs' ++ [b]).map V.ref) (-1) = some (.ref b) := by rw [List.map_append]; exact atI_last _ _
        refine ⟨_, rfl, _, rfl, l, _, _, _, rfl, rfl, SqL.of hl3, at1, b, _, _, _, rfl, rfl, SqT.of hb3, rfl, _, rfl, _, _, rfl, rfl, rfl, _, rfl, ite2 (fun hc => ?_) (fun hc => ?_)⟩
        · have ey : y.2 = e - 1 := V.int.inj (of_decide_eq_true hc)
          have ey' : y = (y.1, e - 1) := by rw [← ey]
          rw [ey'] at rn cv
          obtain ⟨c1, c2⟩ := PM.cov_grow cv rn eb.2
          refine ⟨_, rfl, _, rfl, l, _, _, _, rfl, rfl, SqL.of hl3, at1, b, _, _, _, rfl, rfl, SqT.of hb3, rfl, _, rfl, (by show 2 ≤ sizeLine; decide), fun u hu => ?_⟩
          have t5 := Same.upd (o := .tup [.int y.1, .int e]) hu
          have hl6 := t5 _ _ hl3
          have ul : u ≠ l := fun z => by rw [z, hl3] at hu; cases hu
          refine ⟨_, rfl, _, rfl, l, _, _, bs'.length, rfl, rfl, hl6, by rw [List.map_append]; have := ixN_last (bs'.map V.ref) (V.ref b); rw [List.length_map] at this; exact this, ?_⟩
          have es : ((bs' ++ [b]).map V.ref).set bs'.length (.ref u) = (bs' ++ [u]).map V.ref := by
            rw [List.map_append, List.map_append, List.set_append_right _ _ (by rw [List.length_map]; omega), List.length_map, Nat.sub_self]
            rfl
          refine ⟨bs' ++ [u], ps' ++ [(y.1, e)], _, rfl, same_own ((s2.trans t1).trans t5) hl, by rw [es]; exact upd_same, by rw [List.length_append] at bl' ⊢; exact Nat.le_succ_of_le bl', paired_snoc (((pp'.keep t1.tk).keep t5.tk).keep (Tk.lst hl6)) (by rw [upd_ne ul]; exact upd_same), c2, by rw [tk]; exact c1⟩
        · refine ⟨_, rfl, .inl ⟨rfl, _, SqL.of hl3⟩, _, rfl, _, rfl, (by show 2 ≤ sizeLine; decide), fun u hu => ?_⟩
          have t5 := Same.upd (o := .tup [.int e, .int e]) hu
          refine ⟨l, _, _, rfl, rfl, t5 _ _ hl3, small1000 (by rw [List.length_map]; omega), ?_⟩
          refine new _ (s2.trans t1) hl3 (pp.keep t1.tk) (fun y' hy' => ?_) u hu
          have h1 := lt y' hy'
          rcases List.mem_append.mp hy' with m | m
          · have pw' := rn.pw
            rw [List.pairwise_append] at pw'
            have := pw'.2.2 y' m y (List.mem_singleton.mpr rfl)
            have h2 := lt y (List.mem_append_right _ (List.mem_singleton.mpr rfl))
            have h3 := (rn.al y (List.mem_append_right _ (List.mem_singleton.mpr rfl))).2.1
            omega
          · rw [List.mem_singleton.mp m] at h1 ⊢
            have : y.2 ≠ e - 1 := fun z => hc (decide_eq_true (by rw [z]))
            omega
      · have nb : bs = [] := by
          cases bs with
          | nil => rfl
          | cons _ _ => exact absurd rfl hb
        subst nb
        cases ps with
        | cons _ _ => simp at plen
        | nil =>
          refine ⟨_, rfl, .inl ⟨rfl, _, SqL.of hl3⟩, _, rfl, _, rfl, (by show 2 ≤ sizeLine; decide), fun u hu => ?_⟩
          have t5 := Same.upd (o := .tup [.int e, .int e]) hu
          refine ⟨l, _, _, rfl, rfl, t5 _ _ hl3, small1000 (by show 0 ≤ 1000; omega), ?_⟩
          exact new _ (s2.trans t1) hl3 (pp.keep t1.tk) (fun y' hy' => nomatch hy') u hu
    · rintro σ H2 ⟨bs, ps, v2, rfl, s2, hl2, bl', pp, rn, cv⟩
      rw [List.length_map] at bl' cv
      rw [List.take_length] at cv
      exact ⟨_, rfl, k l bs ps _ s2 hl hl2 pp rn cv (by omega)⟩
end
end K86

namespace L2
open PySem PySem.Spec PyProof.Rows GM TM
theorem ne_dk {H : Hp} {n a : Addr} {kvs : List (Key × V)} {o : HO} (hn : H n = some (.dK kvs)) (h : H a = some o) (d : ∀ ks, o ≠ .dK ks) : a ≠ n := fun e => by
  rw [e, hn] at h
  cases h
  exact d _ rfl
theorem SameB.seqD {K : PySem.W.Frag} {n : Addr} {G H : Hp} {kvs : List (Key × V)} {a : Addr} {xs : List V} (s : SameB n G H) (hn : G n = some (.dK kvs)) (h : SqL K G a xs) : SqL K H a xs := by
  rcases h with h | h
  · rcases h with h | ⟨o, h⟩
    · exact .inl (.inl (s _ _ (ne_dk hn h fun _ z => by cases z) h))
    · exact .inl (.inr ⟨o, s _ _ (ne_dk hn h fun _ z => by cases z) h⟩)
  · exact .inr h
theorem SameB.tkD {n : Addr} {G H : Hp} {kvs : List (Key × V)} (s : SameB n G H) (hn : G n = some (.dK kvs)) : Tk G H := fun b ys e => s _ _ (ne_dk hn e fun _ z => by cases z) e
theorem SameB.refl {n : Addr} {G : Hp} : SameB n G G := fun _ _ _ h => h
theorem SameB.step {n : Addr} {G H H' : Hp} (s : SameB n G H) (t : Same H H') : SameB n G H' := fun b o nb h => t _ _ (s b o nb h)
theorem SameB.own {n p : Addr} {G H : Hp} {o : HO} (s : SameB n G H) (h : G p = none) : SameB n G (upd H p o) := fun b u nb e => by
  rw [upd_ne (fun z => by rw [z, h] at e; cases e)]
  exact s b u nb e
theorem SameB.at {n : Addr} {G H : Hp} {o : HO} (s : SameB n G H) : SameB n G (upd H n o) := fun b u nb e => by
  rw [upd_ne nb]
  exact s b u nb e
theorem SameB.none {n p : Addr} {G H : Hp} {u : HO} (s : SameB n G H) (hn : H n = some u) (h : H p = none) : G p = none := by
  cases e : G p with
  | none => rfl
  | some o =>
    have ne : p ≠ n := fun z => by rw [z, hn] at h; cases h
    have := s _ _ ne e
    rw [h] at this
    cases this
end L2
namespace K86
open PySem PySem.Spec PyProof.Rows L2 GM TM
def lamQ : Str := ("plan_of" : Str) ++ ".<locals>." ++ "<lambda>"
abbrev LT (H : Hp) (T : Addr) : Prop := LamT H T lamQ lamP
theorem sB_seq {K : PySem.W.Frag} {T : Addr} {G H : Hp} {a : Addr} {xs : List V} (s : SameB T G H) (l : LT G T) (h : SqL K G a xs) : SqL K H a xs := by
  rcases h with h | h
  · rcases h with h | ⟨o, h⟩
    · exact .inl (.inl (s.lst l h))
    · exact .inl (.inr ⟨o, s.frz l h⟩)
  · exact .inr h
theorem sB_tk {T : Addr} {G H : Hp} (s : SameB T G H) (l : LT G T) : Tk G H := fun b ys e => s.tup l e
theorem lt_keepD {n T : Addr} {G H : Hp} {kvs : List (Key × V)} (l : LT G T) (s : SameB n G H) (hn : G n = some (.dK kvs)) : LT H T := by
  rcases l with h | ⟨c', oc, vs, t, u, h1, h2, h3, h4⟩
  · exact .inl (s _ _ (ne_dk hn h fun _ z => by cases z) h)
  · exact .inr ⟨c', oc, vs, t, u, s _ _ (ne_dk hn h1 fun _ z => by cases z) h1, s _ _ (ne_dk hn h2 fun _ z => by cases z) h2, h3, h4⟩
theorem Nd.putS {g : Addr → O4} {as : List Addr} {u : Str → Int} {kvs : List (Key × V)} {a : Addr} {s : Int} (h : Nd g as u kvs) (nd : (as.map fun a => (g a).x).Nodup) (ha : a ∈ as) (lt : u (g a).x + s ≤ (g a).m) :
    Nd g as (fun y => u y + if y = (g a).x then s else 0) (putK kvs (Sum.inr (g a).x) (.int ((g a).m - u (g a).x - s))) := by
  refine ⟨by rw [putK_len (h.2 a ha).1]; exact h.1, fun b hb => ?_⟩
  rw [valV_put]
  by_cases e : (g b).x = (g a).x
  · have := nd_inj nd hb ha e
    subst this
    rw [if_pos rfl]
    dsimp only
    rw [if_pos rfl]
    exact ⟨by rw [Int.sub_sub], by omega⟩
  · rw [if_neg (fun z => e (Sum.inr.inj z))]
    dsimp only
    rw [if_neg e, Int.add_zero]
    exact h.2 b hb
theorem rep_flat (x : Str) (n : Nat) : (List.replicate n [V.str x]).flatten = (List.replicate n x).map V.str := by
  induction n with
  | zero => rfl
  | succ n ih => rw [List.replicate_succ, List.flatten_cons, ih, List.replicate_succ, List.map_cons]; rfl
abbrev xo (g : Addr → O4) (a : Addr) : Str := (g a).x
abbrev fo (g : Addr → O4) (a : Addr) : Int := (g a).f
abbrev lo (g : Addr → O4) (a : Addr) : Int := (g a).l
abbrev mo (g : Addr → O4) (a : Addr) : Int := (g a).m
abbrev EdF (g : Addr → O4) (as : List Addr) (ns : List Int) (ws : List (List Str)) : Prop := PM.Edf (xo g) (fo g) (lo g) (mo g) as ns ws
theorem EdF.add {g : Addr → O4} {as : List Addr} {ns : List Int} {ws : List (List Str)} {w : List Str} {n : Int} (E : EdF g as ns ws) (hn : ns[ws.length]? = some n)
    (h : ∀ a ∈ as, (g a).f ≤ (ws.length : Int) → (ws.length : Int) ≤ (g a).l → usd (ws ++ [w]) (g a).x < (g a).m → (w.length : Int) = n ∧ ∀ b ∈ as, (g b).x ∈ w → (g b).l ≤ (g a).l) : EdF g as ns (ws ++ [w]) := by
  intro i v m a hv hm ha h1 h2 h3
  rcases snoc_get hv with z | ⟨rfl, rfl⟩
  · have il := (List.getElem?_eq_some_iff.mp z).1
    rw [List.take_append_of_le_length (by omega)] at h3
    exact E i v m a z hm ha h1 h2 h3
  · rw [hn] at hm
    cases hm
    rw [List.take_of_length_le (by rw [List.length_append]; exact Nat.le_refl _)] at h3
    exact h a ha h1 h2 h3
def spPlanOf (K : PySem.W.Frag) (T : Addr) : Sp := fun vs H Q _ => ∃ o as g d t ns, vs = [.ref o, .ref t] ∧ SqL K H o (as.map V.ref) ∧ Od H d as g ∧ SqL K H t (ns.map V.int) ∧ In50 ns ∧ ns.length ≤ 60 ∧ LT H T ∧
  ∀ p qs ws H', SameB T H H' → LT H' T → H p = none → H' p = some (.lst (qs.map V.ref)) → Paired (fun q (w : List Str) => H' q = some (.lst (w.map V.str)) ∧ H q = none ∧ q ≠ p) qs ws → PlOk g as ns ws → EdF g as ns ws → Q (.ref p) H'
section
variable {P : Program} {w : World} {K : PySem.W.Frag} {mg : Str → Option Value} {base : Heap}
abbrev Npo : List Str := ["orders", "turns", "lacking", "name", "first", "last", "many", "by_last_days", "plan", "day", "free", "names", "served"]
theorem scPlanOf : FnScope Npo ["orders", "turns"] (defScope sPlanOf) := ⟨rfl, rfl, rfl, by decide +kernel, rfl, by decide +kernel, by decide +kernel⟩
theorem ok_planof {f c T : Addr} {fd : FuncData} (F : FunC K "plan_of" "plan_of" sPlanOf f fd c) (T' : Txt mg) (B : LamB mg base c T) : FnOk P w K mg base CX0 1 f fd ["orders", "turns"] (spPlanOf K T) := by
  refine F.ok scPlanOf (fun vs H Q E h => ?_) (fun A outer s H vs Q E hr h => ?_)
  · obtain ⟨_, _, _, _, _, _, rfl, _⟩ := h
    rfl
  · obtain ⟨o, as, g, d, t, ns, rfl, ho, od, ht, i5, nl, lt, k⟩ := h
    refine ⟨_, (pss_cons (ps_set (i := 2) scPlanOf.nd rfl (Or.inl rfl) pe_dnewK)
      (pss_cons (ps_for PassesOwn.never rfl (pi_list (pv 0)) (pg_tup rfl (pgs_cons (pg_name (i := 3) scPlanOf.nd rfl (Or.inl rfl)) (pgs_cons (pg_name (i := 4) scPlanOf.nd rfl (Or.inl rfl)) (pgs_cons (pg_name (i := 5) scPlanOf.nd rfl (Or.inl rfl)) (pgs_cons (pg_name (i := 6) scPlanOf.nd rfl (Or.inl rfl)) pgs_nil)))))
        (pss_one (ps_dput (hu_of hr) (pv 2) (pv 3) (pv 6) rfl)))
      (pss_cons (ps_set (i := 7) scPlanOf.nd rfl (Or.inl rfl) (pe_sortK (qual := lamQ) (lpos := lamP) hr rfl T'.sorted' (pv 0) B rfl rfl (closureFor_none (by decide +kernel)) rfl (fun _ _ _ _ => rfl) rfl rfl rfl (by decide +kernel) rfl rfl))
      (pss_cons (ps_set (i := 8) scPlanOf.nd rfl (Or.inl rfl) (pe_lst pa_nil))
      (pss_cons (ps_for PassesOwn.never rfl (pi_enum rfl T'.enum' (pa_cons (pv 1) pa_nil)) (pg_tup rfl (pgs_cons (pg_name (i := 9) scPlanOf.nd rfl (Or.inl rfl)) (pgs_cons (pg_name (i := 10) scPlanOf.nd rfl (Or.inl rfl)) pgs_nil)))
        (pss_cons (ps_set (i := 11) scPlanOf.nd rfl (Or.inl rfl) (pe_lst pa_nil))
        (pss_cons (ps_for PassesOwn.never rfl (pi_list (pv 7)) (pg_tup rfl (pgs_cons (pg_name (i := 3) scPlanOf.nd rfl (Or.inl rfl)) (pgs_cons (pg_name (i := 4) scPlanOf.nd rfl (Or.inl rfl)) (pgs_cons (pg_name (i := 5) scPlanOf.nd rfl (Or.inl rfl)) (pgs_cons (pg_name (i := 6) scPlanOf.nd rfl (Or.inl rfl)) pgs_nil)))))
          (pss_one (ps_if (pt_chain op_le op_le (pv 4) (pv 9) (pv 5))
            (pss_cons (ps_set (i := 12) scPlanOf.nd rfl (Or.inl rfl) (pe_callB (call_min2 rfl) rfl T'.min' boot_min (pa_cons (pe_dget (hu_of hr) (pv 2) (pv 3) (fun _ _ => rfl)) (pa_cons (pe_op op_sub (pv 10) (pe_callB call_len_seq rfl T'.len PySem.boot_len (pa_cons (pv 11) pa_nil))) pa_nil))))
            (pss_cons (ps_expr (pe_bm PySem.F.plainAttrs_list PySem.F.slot_list_extend PySem.F.type_list_extend mt_extend (pv 11) (pa_cons (pe_op op_rep (pe_lst (pa_cons (pv 3) pa_nil)) (pv 12)) pa_nil)))
            (pss_one (ps_daug (hu_of hr) (pv 2) (pv 3) (pv 12) in_sub (fun _ _ _ => rfl)))))
            pss_nil)))
        (pss_one (ps_expr (pe_bm PySem.F.plainAttrs_list PySem.F.slot_list_append PySem.F.type_list_append mt_append (pv 8) (pa_cons (pe_callB call_sortS rfl T'.sorted' boot_sorted (pa_cons (pv 11) pa_nil)) pa_nil)))))))
      (pss_one (ps_ret (pv 8)))))))), ?_⟩
    have ln := od.ln
    refine fun n hn => ?_
    have sn := Same.upd (o := .dK []) hn
    refine ⟨_, rfl, o, rfl, ⟨_, sn.seq ho⟩, ?_⟩
    refine for_list (xs := as.map V.ref) (fun i σ H' => ∃ (kvs : List (Key × V)) (v3 v4 v5 v6 : Option V), σ = [some (.ref o), some (.ref t), some (.ref n), v3, v4, v5, v6, none, none, none, none, none, none] ∧ Same H H' ∧ H' n = some (.dK kvs) ∧ kvs.length ≤ i ∧ ∀ a ∈ as.take i, valV kvs (Sum.inr (g a).x) = some (.int (g a).m))
      ⟨[], none, none, none, none, rfl, sn, upd_same, Nat.le_refl _, fun a ha => by simp at ha⟩ ?_ ?_ ?_
    · rintro i σ H' _ ⟨_, _, _, _, _, rfl, sm, _⟩
      exact sm.seq ho
    · rintro i v σ H2 hv ⟨kvs, v3, v4, v5, v6, rfl, s2, hn2, kl, hk⟩
      rw [List.getElem?_map] at hv
      obtain ⟨a, ha, rfl⟩ := Option.map_eq_some_iff.mp hv
      have am := List.mem_of_getElem? ha
      have hi := (List.getElem?_eq_some_iff.mp ha).1
      have e := SqT.of (K := K) (s2 _ _ (od.tp a am))
      refine ⟨a, _, rfl, e, rfl, _, _, rfl, _, _, rfl, _, _, rfl, _, _, rfl, rfl, ?_⟩
      refine ⟨_, rfl, _, rfl, _, rfl, n, _, rfl, DPut.k (k := Sum.inr (g a).x) hn2 (small1000 (by omega)), ?_⟩
      refine ⟨_, _, _, _, _, rfl, same_own s2 hn, upd_same, by have := length_putK kvs (Sum.inr (g a).x) (.int (g a).m); omega, fun b hb => ?_⟩
      rw [valV_put]
      by_cases eb : (g b).x = (g a).x
      · have bm : b ∈ as := List.mem_of_mem_take hb
        have := nd_inj od.nd bm am eb
        subst this
        rw [if_pos rfl]
      · rw [if_neg (fun z => eb (Sum.inr.inj z))]
        rw [List.take_add_one, ha] at hb
        rcases List.mem_append.mp hb with z | z
        · exact hk b z
        · exact absurd (by rw [show b = a from by simpa using z]) eb
    rintro σ H1 ⟨kvs0, v3, v4, v5, v6, rfl, s1, hn1, kl, hk⟩
    rw [List.length_map] at kl
    rw [List.length_map, List.take_length] at hk
    have nd0 : Nd g as (usd []) kvs0 := ⟨by omega, fun a ha => by
      have := (od.ib a ha).2.2.2.1
      show _ = some (V.int ((g a).m - 0)) ∧ (0 : Int) ≤ _
      rw [Int.sub_zero]
      exact ⟨hk a ha, by omega⟩⟩
    -- the sort
    refine ⟨_, rfl, o, as, lo g, rfl, s1.seq ho, by omega, LamT.keep lt s1, fun q hq => ⟨_, s1 _ _ (od.tp q hq), rfl⟩, fun b as' G pm pw sb lG hb0 hb => ?_⟩
    have l1 : LT H1 T := LamT.keep lt s1
    have nT : n ≠ T := lamT_ne l1 hn1 fun _ z => by cases z
    have hnG : G n = some (.dK kvs0) := sb _ _ nT hn1
    have odG : Od G d as g := (od.keep s1.tk).keep (sB_tk sb l1)
    have htG : SqL K G t (ns.map V.int) := sB_seq sb l1 (s1.seq ht)
    have sHG : SameB T H G := fun x u nx e => sb x u nx (s1 x u e)
    have freeG : ∀ x, G x = none → H x = none := fun x hx => by
      cases e : H x with
      | none => rfl
      | some u =>
        by_cases xT : x = T
        · rcases lG with z | ⟨_, _, _, _, _, z, _⟩ <;> rw [xT, z] at hx <;> cases hx
        · have := sHG _ _ xT e
          rw [hx] at this
          cases this
    have ln' := pm.length_eq
    refine ⟨(by show 0 ≤ sizeLine; decide), fun p hp => ?_⟩
    have pn : p ≠ n := fun e => by rw [e, hnG] at hp; cases hp
    refine ⟨_, rfl, t, rfl, ⟨_, SameB.seqD (SameB.own SameB.refl hp) hnG htG⟩, ?_⟩
    refine for_enum (K := K) (b := t) (ys := ns.map V.int) (fun i σ H' => ∃ (qs : List Addr) (ws : List (List Str)) (kvs : List (Key × V)) (v3 v4 v5 v6 v9 v10 v11 v12 : Option V), σ = [some (.ref o), some (.ref t), some (.ref n), v3, v4, v5, v6, some (.ref b), some (.ref p), v9, v10, v11, v12] ∧ SameB n G H' ∧ H' p = some (.lst (qs.map V.ref)) ∧ H' n = some (.dK kvs) ∧ Paired (fun q (w : List Str) => H' q = some (.lst (w.map V.str)) ∧ q ≠ p ∧ q ≠ n ∧ H q = none) qs ws ∧ ws.length = i ∧ Dys g as ns ws ∧ Nd g as (usd ws) kvs ∧ EdF g as ns ws)
      ⟨[], [], kvs0, _, _, _, _, none, none, none, none, rfl, SameB.own SameB.refl hp, upd_same, by rw [upd_ne (Ne.symm pn)]; exact hnG, .nil, rfl, Dys.nil, nd0, fun i w n a hw => by simp at hw⟩ ?_ ?_ ?_
    · rintro i σ H' _ ⟨_, _, _, _, _, _, _, _, _, _, _, rfl, sm, _⟩
      exact SameB.seqD sm hnG htG
    · rintro i v Tt σ H2 hv hTt ⟨qs, ws, kvs, v3, v4, v5, v6, v9, v10, v11, v12, rfl, s2, hp2, hn2, dy, wl, ds, nd, ed⟩
      rw [List.getElem?_map] at hv
      obtain ⟨m, hm, rfl⟩ := Option.map_eq_some_iff.mp hv
      have hi' := (List.getElem?_eq_some_iff.mp hm).1
      have ql := paired_len dy
      have m5 := i5 m (List.mem_of_getElem? hm)
      refine ⟨Tt, _, rfl, SqT.of upd_same, rfl, _, _, rfl, _, _, rfl, rfl, ?_⟩
      have tT := Same.upd (o := .tup [.int (i : Nat), .int m]) hTt
      refine ⟨(by show 0 ≤ sizeLine; decide), fun l hl => ?_⟩
      have tl := Same.upd (o := .lst []) hl
      have t3 := tT.trans tl
      have hp3 := t3 _ _ hp2
      have hn3 := t3 _ _ hn2
      have s3 := s2.step t3
      have lp : p ≠ l := fun e => by rw [← e, tT _ _ hp2] at hl; cases hl
      have lnn : n ≠ l := fun e => by rw [← e, tT _ _ hn2] at hl; cases hl
      have hlG : G l = none := (s2.step tT).none (tT _ _ hn2) hl
      have hl3 := upd_same (H := upd H2 Tt (.tup [.int (i : Nat), .int m])) (a := l) (o := .lst [])
      have dy3 : Paired (fun q (w : List Str) => upd (upd H2 Tt (.tup [.int (i : Nat), .int m])) l (.lst []) q = some (.lst (w.map V.str)) ∧ q ≠ p ∧ q ≠ n ∧ q ≠ l ∧ H q = none) qs ws := paired_mono (fun q w ⟨e1, e2, e3, e4⟩ => ⟨t3 _ _ e1, e2, e3, (fun z => by rw [← z, tT _ _ e1] at hl; cases hl), e4⟩) dy
      clear dy
      generalize upd (upd H2 Tt (.tup [.int (i : Nat), .int m])) l (.lst []) = H3 at hp3 hn3 s3 dy3 hl3 t3 ⊢
      have bG := s3 b _ (ne_dk hnG hb fun _ z => by cases z) hb
      refine ⟨_, rfl, b, rfl, ⟨_, SqL.of bG⟩, ?_⟩
      refine for_list (xs := as'.map V.ref) (fun j σ H' => ∃ (nms : List Str) (kvs : List (Key × V)) (v3 v4 v5 v6 v12 : Option V), σ = [some (.ref o), some (.ref t), some (.ref n), v3, v4, v5, v6, some (.ref b), some (.ref p), some (.int (i : Nat)), some (.int m), some (.ref l), v12] ∧ SameB n G H' ∧ Sx l n H3 H' ∧ H' l = some (.lst (nms.map V.str)) ∧ H' n = some (.dK kvs) ∧ (nms.length : Int) ≤ m ∧ (∀ x ∈ nms, ∃ a ∈ as'.take j, (g a).x = x ∧ (g a).f ≤ (i : Int) ∧ (i : Int) ≤ (g a).l) ∧ Nd g as (fun x => usd ws x + (nms.count x : Int)) kvs ∧
          ∀ a ∈ as'.take j, (g a).f ≤ (i : Int) → (i : Int) ≤ (g a).l → usd ws (g a).x + (nms.count (g a).x : Int) < (g a).m → (nms.length : Int) = m ∧ ∀ x ∈ nms, ∃ c ∈ as, (g c).x = x ∧ (g c).l ≤ (g a).l)
        ⟨[], kvs, v3, v4, v5, v6, v12, rfl, s3, Sx.refl, hl3, hn3, (by show (0 : Int) ≤ m; omega), (fun x h => nomatch h), nd.congr fun y => by simp, fun a ha => by simp at ha⟩ ?_ ?_ ?_
      · rintro j σ H' _ ⟨_, _, _, _, _, _, _, rfl, sm, _⟩
        exact SqL.of (sm b _ (ne_dk hnG hb fun _ z => by cases z) hb)
      · rintro j v σ H4 hv ⟨nms, kvs, v3, v4, v5, v6, v12, rfl, s4, sx, hl4, hn4, nm5, nmw, nd4, wt4⟩
        rw [List.getElem?_map] at hv
        obtain ⟨a, ha, rfl⟩ := Option.map_eq_some_iff.mp hv
        have am' := List.mem_of_getElem? ha
        have am := pm.mem_iff.mp am'
        have od4 := odG.keep (SameB.tkD s4 hnG)
        have e := SqT.of (K := K) (od4.tp a am)
        have tk : as'.take (j + 1) = as'.take j ++ [a] := by rw [List.take_add_one, ha]; rfl
        refine ⟨a, _, rfl, e, rfl, _, _, rfl, _, _, rfl, _, _, rfl, _, _, rfl, rfl, ?_⟩
        have out : (¬ ((g a).f ≤ (i : Int) ∧ (i : Int) ≤ (g a).l)) → ∃ (nms : List Str) (kvs : List (Key × V)) (v3 v4 v5 v6 v12' : Option V), [some (V.ref o), some (.ref t), some (.ref n), some (.str (g a).x), some (.int (g a).f), some (.int (g a).l), some (.int (g a).m), some (.ref b), some (.ref p), some (.int (i : Nat)), some (.int m), some (.ref l), v12] = [some (.ref o), some (.ref t), some (.ref n), v3, v4, v5, v6, some (.ref b), some (.ref p), some (.int (i : Nat)), some (.int m), some (.ref l), v12'] ∧ SameB n G H4 ∧ Sx l n H3 H4 ∧ H4 l = some (.lst (nms.map V.str)) ∧ H4 n = some (.dK kvs) ∧ (nms.length : Int) ≤ m ∧ (∀ x ∈ nms, ∃ a ∈ as'.take (j + 1), (g a).x = x ∧ (g a).f ≤ (i : Int) ∧ (i : Int) ≤ (g a).l) ∧ Nd g as (fun x => usd ws x + (nms.count x : Int)) kvs ∧
          ∀ a ∈ as'.take (j + 1), (g a).f ≤ (i : Int) → (i : Int) ≤ (g a).l → usd ws (g a).x + (nms.count (g a).x : Int) < (g a).m → (nms.length : Int) = m ∧ ∀ x ∈ nms, ∃ c ∈ as, (g c).x = x ∧ (g c).l ≤ (g a).l := fun no =>
          ⟨nms, kvs, _, _, _, _, _, rfl, s4, sx, hl4, hn4, nm5, (fun x hx => by
            obtain ⟨c, hc, r⟩ := nmw x hx
            exact ⟨c, by rw [tk]; exact List.mem_append_left _ hc, r⟩), nd4, fun c hc c1 c2 c3 => by
            rw [tk] at hc
            rcases List.mem_append.mp hc with z | z
            · exact wt4 c z c1 c2 c3
            · have : c = a := by simpa using z
              subst this
              exact absurd ⟨c1, c2⟩ no⟩
        dsimp only [gName]
        refine st [some (.ref o), some (.ref t), some (.ref n), some (.str (g a).x), some (.int (g a).f), some (.int (g a).l), some (.int (g a).m), some (.ref b), some (.ref p), some (.int (i : Nat)), some (.int m), some (.ref l), v12] rfl ?_
        refine ⟨_, rfl, _, rfl, _, _, rfl, rfl, _, rfl, ite2 (fun h1 => ⟨_, rfl, _, _, rfl, rfl, _, rfl, ite2 (fun h2 => ?_) (fun h2 => out fun z => h2 (decide_eq_true z.2))⟩) (fun h1 => ⟨_, rfl, iteF (out fun z => h1 (decide_eq_true z.1))⟩)⟩
        have f1 : (g a).f ≤ (i : Int) := of_decide_eq_true h1
        have f2 : (i : Int) ≤ (g a).l := of_decide_eq_true h2
        obtain ⟨nv, nu⟩ := nd4.2 a am
        have nu : usd ws (g a).x + (nms.count (g a).x : Int) ≤ (g a).m := nu
        have gv : DGet H4 n (kV (Sum.inr (g a).x)) (some (.int ((g a).m - (usd ws (g a).x + (nms.count (g a).x : Int))))) := by rw [← nv]; exact DGet.k hn4
        refine ⟨_, rfl, _, rfl, n, _, rfl, gv, _, rfl, _, rfl, l, _, rfl, .inl (SqL.of hl4), _, _, rfl, rfl, _, _, rfl, ?_⟩
        rw [List.length_map]
        generalize hs : (if m - (nms.length : Int) < (g a).m - (usd ws (g a).x + (nms.count (g a).x : Int)) then m - (nms.length : Int) else (g a).m - (usd ws (g a).x + (nms.count (g a).x : Int))) = sv
        have sb1 : 0 ≤ sv ∧ sv ≤ m - (nms.length : Int) ∧ sv ≤ (g a).m - (usd ws (g a).x + (nms.count (g a).x : Int)) ∧ (sv = m - (nms.length : Int) ∨ sv = (g a).m - (usd ws (g a).x + (nms.count (g a).x : Int))) := by
          rw [← hs]
          split
          · exact ⟨by omega, by omega, by omega, .inl rfl⟩
          · exact ⟨by omega, by omega, by omega, .inr rfl⟩
        obtain ⟨sv0, svm, svl, sve⟩ := sb1
        clear hs
        refine ⟨_, rfl, .inl ⟨rfl, _, SqL.of hl4⟩, _, rfl, (by show 1 ≤ sizeLine; decide), fun z hz => ?_⟩
        have tz := Same.upd (o := .lst [.str (g a).x]) hz
        refine ⟨_, rfl, z, sv, _, rfl, rfl, upd_same, by omega, by omega, sz1000 (by show 1 * sv.toNat ≤ 1000; omega), fun y hy => ?_⟩
        have ty := Same.upd (o := .lst (List.replicate sv.toNat [V.str (g a).x]).flatten) hy
        have tzy := tz.trans ty
        have hl5 := tzy _ _ hl4
        have hn5 := tzy _ _ hn4
        refine ⟨l, y, _, _, rfl, rfl, hl5, upd_same, sz1000 (by rw [rep_flat, List.length_map, List.length_map, List.length_replicate]; omega), ?_⟩
        rw [rep_flat, ← List.map_append]
        have hn6 : ∀ H5 : Hp, H5 n = some (.dK kvs) → ∀ o, upd H5 l o n = some (.dK kvs) := fun H5 q o => by rw [upd_ne lnn]; exact q
        have gv6 : ∀ H5 : Hp, H5 n = some (.dK kvs) → ∀ o, DGet (upd H5 l o) n (kV (Sum.inr (g a).x)) (some (.int ((g a).m - (usd ws (g a).x + (nms.count (g a).x : Int))))) := fun H5 q o => by rw [← nv]; exact DGet.k (hn6 H5 q o)
        rw [rep_flat] at hn5
        refine ⟨_, rfl, _, rfl, n, _, rfl, gv6 _ hn5 _, _, rfl, _, _, rfl, rfl, _, DPut.k (k := Sum.inr (g a).x) (hn6 _ hn5 _) (small1000 (by have := nd4.1; omega)), ?_⟩
        refine ⟨nms ++ List.replicate sv.toNat (g a).x, _, _, _, _, _, _, rfl, ?_, ?_, by rw [upd_ne (Ne.symm lnn)]; exact upd_same, upd_same, by rw [List.length_append, List.length_replicate]; omega, fun x hx => ?_, ?_, fun c hc c1 c2 c3 => ?_⟩
        · refine SameB.at (SameB.own ?_ hlG)
          rw [← rep_flat]
          exact s4.step tzy
        · refine Sx.up2 (Sx.up1 ?_)
          rw [← rep_flat]
          exact sx.step tzy
        · rw [tk]
          rcases List.mem_append.mp hx with z | z
          · obtain ⟨c, hc, r⟩ := nmw x z
            exact ⟨c, List.mem_append_left _ hc, r⟩
          · rw [List.eq_of_mem_replicate z]
            exact ⟨a, List.mem_append_right _ (List.mem_singleton.mpr rfl), rfl, f1, f2⟩
        · refine (nd4.putS od.nd am (s := sv) (by omega)).congr fun y => ?_
          rw [List.count_append, List.count_replicate]
          by_cases ey : y = (g a).x
          · rw [if_pos ey, ey]
            simp
            omega
          · rw [if_neg ey]
            have : ((g a).x == y) = false := by simpa using fun z => ey z.symm
            rw [this]
            simp
        · rw [List.count_append, List.count_replicate] at c3
          rw [tk] at hc
          rcases List.mem_append.mp hc with z | z
          · have hle : usd ws (g c).x + (nms.count (g c).x : Int) < (g c).m := by omega
            obtain ⟨q1, q2⟩ := wt4 c z c1 c2 hle
            have s0 : sv.toNat = 0 := by omega
            rw [s0]
            simp only [List.replicate_zero, List.append_nil]
            exact ⟨q1, q2⟩
          · have : c = a := by simpa using z
            subst this
            rw [if_pos (by simp)] at c3
            have full : sv = m - (nms.length : Int) := by
              rcases sve with q | q
              · exact q
              · omega
            refine ⟨by rw [List.length_append, List.length_replicate]; omega, fun x hx => ?_⟩
            rcases List.mem_append.mp hx with z | z
            · obtain ⟨u, hu, r1, _⟩ := nmw x z
              refine ⟨u, pm.mem_iff.mp (List.mem_of_mem_take hu), r1, ?_⟩
              obtain ⟨ju, hju⟩ := List.mem_iff_getElem?.mp hu
              rw [List.getElem?_take] at hju
              split at hju
              · rename_i hlt
                obtain ⟨j1, j2⟩ := List.getElem?_eq_some_iff.mp hju
                obtain ⟨k1, k2⟩ := List.getElem?_eq_some_iff.mp ha
                have := List.pairwise_iff_getElem.mp pw ju j j1 k1 hlt
                rw [j2, k2] at this
                exact this
              · cases hju
            · rw [List.eq_of_mem_replicate z]
              exact ⟨c, am, rfl, Int.le_refl _⟩
      · rintro σ H4 ⟨nms, kvs, v3, v4, v5, v6, v12, rfl, s4, sx, hl4, hn4, nm5, nmw, nd4, wt4⟩
        rw [List.length_map, List.take_length] at nmw wt4
        have hp4 := sx p _ lp pn hp3
        refine ⟨_, rfl, .inl ⟨rfl, _, SqL.of hp4⟩, _, rfl, l, nms, rfl, SqL.of hl4, by omega, fun q nms' pm' so hq => ?_⟩
        have tq := Same.upd (o := .lst (nms'.map V.str)) hq
        have qp : q ≠ p := fun z => by rw [z, hp4] at hq; cases hq
        have qn : q ≠ n := fun z => by rw [z, hn4] at hq; cases hq
        have ll := pm'.length_eq
        have hqH : H q = none := freeG _ (s4.none hn4 hq)
        have dy' : ∀ o, Paired (fun q' (w : List Str) => upd (upd H4 q (.lst (nms'.map V.str))) p o q' = some (.lst (w.map V.str)) ∧ q' ≠ p ∧ q' ≠ n ∧ H q' = none) qs ws := fun o => paired_mono (fun q' w ⟨e1, e2, e3, e4, e5⟩ => ⟨by
          rw [upd_ne e2]
          exact tq _ _ (sx q' _ e4 e3 e1), e2, e3, e5⟩) dy3
        refine ⟨p, _, _, rfl, rfl, tq _ _ hp4, small1000 (by rw [List.length_map]; omega), ?_⟩
        refine ⟨qs ++ [q], ws ++ [nms'], kvs, _, _, _, _, _, _, _, _, rfl, SameB.own (s4.step tq) hp, by rw [List.map_append]; exact upd_same, by rw [upd_ne (Ne.symm pn)]; exact tq _ _ hn4, paired_snoc (dy' _) ⟨by rw [upd_ne qp]; exact upd_same, qp, qn, hqH⟩, by rw [List.length_append, wl]; rfl, ?_, ?_, ?_⟩
        · refine ds.add so (by rw [wl]; exact hm) (by omega) fun x hx => ?_
          rw [wl]
          obtain ⟨c, hc, r⟩ := nmw x (pm'.mem_iff.mp hx)
          exact ⟨c, pm.mem_iff.mp hc, r⟩
        · refine nd4.congr fun y => ?_
          rw [usd_snoc, pm'.count_eq]
        · refine EdF.add ed (by rw [wl]; exact hm) fun c hc c1 c2 c3 => ?_
          rw [wl] at c1 c2
          rw [usd_snoc, pm'.count_eq] at c3
          obtain ⟨q1, q2⟩ := wt4 c (pm.mem_iff.mpr hc) c1 c2 c3
          refine ⟨by omega, fun u hu hux => ?_⟩
          obtain ⟨v, hv, r1, r2⟩ := q2 _ (pm'.mem_iff.mp hux)
          have := nd_inj od.nd hv hu r1
          subst this
          exact r2
    · rintro σ H2 ⟨qs, ws, kvs, v3, v4, v5, v6, v9, v10, v11, v12, rfl, s2, hp2, hn2, dy, wl, ds, nd, ed⟩
      rw [List.length_map] at wl
      refine ⟨_, rfl, k p qs ws _ (fun x u nx e => ?_) (lt_keepD lG s2 hnG) (freeG _ hp) hp2 (paired_mono (fun q w e => ⟨e.1, e.2.2.2, e.2.1⟩) dy) ⟨ds, wl, fun a ha => (nd.2 a ha).2⟩ ed⟩
      exact s2 _ _ (fun z => by rw [z, hn] at e; cases e) (sHG _ _ nx e)
end
end K86

namespace K86
open PySem PySem.Spec PyProof.Rows L2 GM TM
theorem nd_len : ∀ (n : Nat) (l : List Int), l.Nodup → (∀ e ∈ l, 0 ≤ e ∧ e < (n : Int)) → l.length ≤ n
  | 0, [], _, _ => Nat.le_refl _
  | 0, e :: _, _, h => by have := h e (List.mem_cons_self ..); omega
  | n + 1, l, nd, h => by
    have ih := nd_len n (l.erase (n : Int)) (nd.erase _) fun e he => by
      obtain ⟨h1, h2⟩ := nd.mem_erase_iff.mp he
      have := h e h2
      omega
    have := List.le_length_erase (a := (n : Int)) (l := l)
    omega
theorem sm5k {n : Nat} (h : n ≤ 5000) : n < sizeLine := Nat.lt_of_le_of_lt h (by decide)
theorem sz5k {n : Nat} (h : n ≤ 5000) : n ≤ sizeLine := Nat.le_trans h (by decide)
theorem mem_lft {g : Addr → O4} {ws : List (List Str)} {as : List Addr} {z : Str × Int} : z ∈ lft g ws as ↔ ∃ a ∈ as, 0 < lk g ws a ∧ z = ((g a).x, lk g ws a) := by
  unfold lft
  rw [List.mem_filterMap]
  constructor
  · rintro ⟨a, ha, e⟩
    unfold lf1 at e
    split at e
    · rename_i hp
      cases e
      exact ⟨a, ha, hp, rfl⟩
    · cases e
  · rintro ⟨a, ha, hp, rfl⟩
    exact ⟨a, ha, by unfold lf1; rw [if_pos hp]⟩
abbrev CiP (g : Addr → O4) (as : List Addr) (ns : List Int) (ws : List (List Str)) (pd : Str → Int → Prop) (wt sn : List Str) (dy : List Int) : Prop := PM.CI (xo g) (fo g) (lo g) (mo g) as ns ws pd wt sn dy
abbrev ClP (g : Addr → O4) (as : List Addr) (ns : List Int) (ws : List (List Str)) (ds : List Int) : Prop := PM.Cl (xo g) (fo g) (lo g) (mo g) as ns ws ds
abbrev PnP (g : Addr → O4) (as : List Addr) (ns : List Int) (ws : List (List Str)) : Prop := PM.Pn (xo g) (fo g) (lo g) (mo g) as ns ws
theorem pn_of {H : Hp} {d : Int} {g : Addr → O4} {as : List Addr} {ns : List Int} {ws : List (List Str)} (od : Od H d as g) (pk : PlOk g as ns ws) : PnP g as ns ws :=
  ⟨od.nd, pk.ln, fun a ha => (od.ib a ha).2.1, pk.le, pk.nm, pk.us⟩
theorem clp_perm {g : Addr → O4} {as : List Addr} {ns : List Int} {ws : List (List Str)} {ds ds' : List Int} (C : ClP g as ns ws ds) (p : ds'.Perm ds) : ClP g as ns ws ds' :=
  ⟨fun e he => C.dn e (p.mem_iff.mp he), fun i w n hi hw hn => let q := C.fu i w n (p.mem_iff.mp hi) hw hn; ⟨q.1, fun a ha hm e e1 e2 => p.mem_iff.mpr (q.2 a ha hm e e1 e2)⟩, fun a ha h e e1 e2 => p.mem_iff.mpr (C.lk a ha h e e1 e2)⟩
/-- the while of crowded_days: the dict of days at n, of names seen at s, who waits at l -/
structure Cw0 (H : Hp) (n s l : Addr) (g : Addr → O4) (as : List Addr) (ns : List Int) (ws : List (List Str)) (pd : Str → Int → Prop) (wt sn : List Str) (dy : List Int) (H' : Hp) : Prop where
  sm : Same H H'
  ex : ∃ (kd ks : List (Key × V)), H' n = some (.dK kd) ∧ H' s = some (.dK ks) ∧ kd.map (·.1) = dy.map Sum.inl ∧ ks.map (·.1) = sn.map Sum.inr
  hl : H' l = some (.lst (wt.map V.str))
  ci : CiP g as ns ws pd wt sn dy
def Cw (H : Hp) (o p q n s l : Addr) (g : Addr → O4) (as : List Addr) (ns : List Int) (ws : List (List Str)) (em : Prop) (m : Nat) (σ : L2.St) (H' : Hp) : Prop :=
  ∃ (wt sn : List Str) (dy : List Int) (v6 v7 : Option V), σ = [some (.ref o), some (.ref p), some (.ref q), some (.ref n), some (.ref s), some (.ref l), v6, v7] ∧ Cw0 H n s l g as ns ws PM.NoP wt sn dy H' ∧ wt.length + 51 * (60 - dy.length) ≤ m ∧ sn.length + m ≤ 3200 ∧ (em → wt = [] ∧ dy = [])
def spCrowd (K : PySem.W.Frag) : Sp := fun vs H Q _ => ∃ o as g d ns p qs ws q bs zs, vs = [.ref o, .ref p, .ref q] ∧ SqL K H o (as.map V.ref) ∧ Od H d as g ∧ d = (ns.length : Int) ∧ In50 ns ∧ ns.length ≤ 60 ∧ Pl K H p qs ws ∧ PlOk g as ns ws ∧ EdF g as ns ws ∧
  SqL K H q (bs.map V.ref) ∧ PrS H bs zs ∧ zs.Perm (lft g ws as) ∧
  ∀ r ds H', Same H H' → H r = none → H' r = some (.lst (ds.map V.int)) → ds.Pairwise (· < ·) → ClP g as ns ws ds → (zs = [] → ds = []) → ds.length ≤ 60 → Q (.ref r) H'
section
variable {P : Program} {w : World} {K : PySem.W.Frag} {mg : Str → Option Value} {base : Heap}
theorem ndCw : (["name", "lacking"] : List Str).Nodup := by decide +kernel
theorem scCrowd : FnScope ["orders", "plan", "left", "days", "seen", "waiting", "name", "day"] ["orders", "plan", "left"] (defScope sCrowd) := ⟨rfl, rfl, rfl, by decide +kernel, rfl, by decide +kernel, by decide +kernel⟩
theorem ok_crowd {f : Addr} {fd : FuncData} (F : Fun K "crowded_days" "crowded_days" sCrowd f fd) (T : Txt mg) (cD : Cal P w K mg base CX0 1 "days_of" ["orders", "name"] (spDaysOf K)) : FnOk P w K mg base CX0 2 f fd ["orders", "plan", "left"] (spCrowd K) := by
  refine F.ok scCrowd (fun vs H Q E h => ?_) (fun cdv A outer s H vs Q E hr h => ?_)
  · obtain ⟨_, _, _, _, _, _, _, _, _, _, _, rfl, _⟩ := h
    rfl
  · obtain ⟨o, as, g, d, ns, p, qs, ws, q, bs, zs, rfl, ho, od, dn, i5, nl, pl, pk, ed, hq, prs, pmz, k⟩ := h
    refine ⟨_, (pss_cons (ps_set (i := 3) scCrowd.nd rfl (Or.inl rfl) pe_dnewK)
      (pss_cons (ps_set (i := 4) scCrowd.nd rfl (Or.inl rfl) pe_dnewK)
      (pss_cons (ps_comp (iy := 5) (N' := ["name", "lacking"]) (cl := []) (g := gTup K 2 (gCons (gName 0) (gCons (gName 1) gNil))) (fun _ => [none, none]) rfl rfl (by decide +kernel) (by decide +kernel) (clOk_plain (by decide +kernel)) (fun _ _ => blkN_none)
            (pi_list (pv 2)) (fun _ _ _ _ _ => pg_tup rfl (pgs_cons (pg_name (i := 0) ndCw rfl (Or.inl rfl) (Or.inr rfl)) (pgs_cons (pg_name (i := 1) ndCw rfl (Or.inl rfl) (Or.inr rfl)) pgs_nil))) (fun _ _ _ _ _ => pifs_nil) (fun _ _ _ _ _ => pv 0) scCrowd.nd rfl (Or.inl rfl) (Or.inr rfl) rfl)
      (pss_cons (ps_while PassesOwn.never (pt_cmpR (op_neE hr.units) (pv 5) (pe_lst pa_nil) (nomark _))
        (pss_cons (ps_set (i := 6) scCrowd.nd rfl (Or.inl rfl) (pe_bm0 PySem.F.plainAttrs_list PySem.F.slot_list_pop PySem.F.type_list_pop mt_pop (pv 5)))
        (pss_one (ps_if (pt_cmp (pc_dnotin (hu_of hr) (pv 6) (pv 4)))
          (pss_cons (ps_dput (hu_of hr) (pv 4) (pv 6) pe_bl rfl)
          (pss_one (ps_for PassesOwn.never rfl (pi_list (pe_cal cD hr rfl pass0 (pa_cons (pv 0) (pa_cons (pv 6) pa_nil)))) (pg_name (i := 7) scCrowd.nd rfl (Or.inl rfl))
            (pss_one (ps_if (pt_cmp (pc_dnotin (hu_of hr) (pv 7) (pv 3)))
              (pss_cons (ps_dput (hu_of hr) (pv 3) (pv 7) pe_bl rfl)
              (pss_one (ps_expr (pe_bm PySem.F.plainAttrs_list PySem.F.slot_list_extend PySem.F.type_list_extend mt_extend (pv 5) (pa_cons (pe_ix ix_list (pv 1) (pv 7) (fun _ _ => rfl)) pa_nil)))))
              pss_nil)))))
          pss_nil))))
      (pss_one (ps_ret (pe_callB (call_sortDI rfl) rfl T.sorted' boot_sorted (pa_cons (pv 3) pa_nil)))))))), ?_⟩
    have ln := od.ln
    have pn := pn_of od pk
    have zl := paired_len prs
    have zl2 := pmz.length_eq
    have zl3 : (lft g ws as).length ≤ as.length := List.length_filterMap_le _ _
    have ql := paired_len pl.pr
    have wl := pk.ln
    refine fun n hn => ?_
    have sn := Same.upd (o := .dK []) hn
    refine fun s' hs => ?_
    have ss := Same.upd (o := .dK []) hs
    have ns' : n ≠ s' := fun e => by rw [← e, upd_same] at hs; cases hs
    have hs0 : H s' = none := same_none sn hs
    have s1 := sn.trans ss
    refine ⟨_, rfl, q, rfl, ⟨_, s1.seq hq⟩, fun D hD => ?_⟩
    refine comp_rel (Ys.list (s1.seq hq)) (fun j _ y _ => ∃ z, zs[j]? = some z ∧ y = .str z.1) (fun _ _ _ _ _ h _ => h) hD (by rw [List.length_map]; omega) (fun i v H' R hv sm hR => ?_) (fun ys H1 sm hD1 yl hy => ?_)
    · rw [List.getElem?_map] at hv
      obtain ⟨b, hb, rfl⟩ := Option.map_eq_some_iff.mp hv
      obtain ⟨z, hz, e⟩ := paired_get (prs.keep (s1.trans sm).tk) hb
      exact ⟨b, _, rfl, SqT.of e, rfl, _, _, rfl, _, _, rfl, rfl, ((Keep.refl _).set rfl).set rfl, _, rfl, hR _ _ (Same.refl _) ⟨z, hz, rfl⟩⟩
    rw [List.length_map] at yl
    have ey : ys = (zs.map (·.1)).map V.str := by
      refine list_eq (by rw [List.length_map, List.length_map]; omega) fun j u y hu hj => ?_
      obtain ⟨v, hv⟩ : ∃ v, bs[j]? = some v := ⟨_, List.getElem?_eq_getElem (by have := (List.getElem?_eq_some_iff.mp hj).1; omega)⟩
      obtain ⟨z, hz, rfl⟩ := hy j (.ref v) y (by rw [List.getElem?_map, hv]; rfl) hj
      rw [List.getElem?_map, List.getElem?_map, hz] at hu
      exact Option.some.inj hu
    subst ey
    have hD0 : H D = none := same_none s1 hD
    have nD : D ≠ n := fun e => by rw [e, ss _ _ upd_same] at hD; cases hD
    have sD : D ≠ s' := fun e => by rw [e, upd_same] at hD; cases hD
    have hn1 := sm _ _ (ss _ _ (upd_same (H := H) (a := n) (o := .dK [])))
    have hs1 := sm _ _ (upd_same (H := upd H n (.dK [])) (a := s') (o := .dK []))
    have c0 : Cw0 H n s' D g as ns ws PM.NoP (zs.map (·.1)) [] [] H1 := ⟨s1.trans sm, ⟨[], [], hn1, hs1, rfl, rfl⟩, hD1, PM.CI.start ed (fun y hy => by
        obtain ⟨z, hz, rfl⟩ := List.mem_map.mp hy
        obtain ⟨a, ha, hp, rfl⟩ := mem_lft.mp (pmz.mem_iff.mp hz)
        exact ⟨a, ha, rfl, by show usd ws (g a).x < (g a).m; unfold lk at hp; omega⟩) fun a ha h => List.mem_map.mpr ⟨((g a).x, lk g ws a), pmz.mem_iff.mpr (mem_lft.mpr ⟨a, ha, by have h' : usd ws (g a).x < (g a).m := h; unfold lk; omega, rfl⟩), rfl⟩⟩
    clear hn1 hs1 hD1 sm
    refine ⟨Cw H o p q n s' D g as ns ws (zs = []), ⟨3100, _, _, _, none, none, rfl, c0, by rw [List.length_map]; show _ + 51 * (60 - 0) ≤ 3100; omega, by show 0 + 3100 ≤ 3200; omega, fun z => by rw [z]; exact ⟨rfl, rfl⟩⟩, ?_⟩
    clear c0
    rintro m σ H2 ⟨wt, sn', dy, v6, v7, rfl, ⟨s2, ⟨kd, ks, hn2, hs2, ekd, eks⟩, hl2, ci⟩, mm, km, em⟩
    have dyl : dy.length ≤ 60 := Nat.le_trans (nd_len ns.length dy ci.nd ci.dn) nl
    have ksl : ks.length = sn'.length := by have := congrArg List.length eks; simpa using this
    have kdl : kd.length = dy.length := by have := congrArg List.length ekd; simpa using this
    refine ⟨_, rfl, (by show 0 ≤ sizeLine; decide), fun z hz => ?_⟩
    have tz := Same.upd (o := .lst []) hz
    have hl3 := tz _ _ hl2
    have hn3 := tz _ _ hn2
    have hs3 := tz _ _ hs2
    have s3 := s2.trans tz
    refine ⟨D, z, _, rfl, rfl, SqL.of hl3, SqL.of upd_same, _, rfl, ite2 (fun hb => ?_) (fun hb => ?_)⟩
    · refine ⟨fun σ' H' => ∃ m', m' < m ∧ Cw H o p q n s' D g as ns ws (zs = []) m' σ' H', fun _ _ h => h, ?_⟩
      have wn : wt ≠ [] := fun e => by rw [e] at hb; exact absurd hb (by decide)
      obtain ⟨r, y, rfl⟩ := snoc_of wn
      have em' : ¬ zs = [] := fun e => wn (em e).1
      rw [List.length_append, List.length_singleton] at mm
      refine ⟨_, rfl, .inl ⟨rfl, _, SqL.of hl3⟩, D, _, V.str y, rfl, rfl, hl3, by simp, ?_⟩
      rw [List.map_append, List.map_singleton, List.dropLast_concat]
      generalize hH4 : upd (upd H2 z (.lst [])) D (.lst (r.map V.str)) = H4
      have hl4 : H4 D = some (.lst (r.map V.str)) := by rw [← hH4]; exact upd_same
      have hn4 : H4 n = some (.dK kd) := by rw [← hH4, upd_ne (Ne.symm nD)]; exact hn3
      have hs4 : H4 s' = some (.dK ks) := by rw [← hH4, upd_ne (Ne.symm sD)]; exact hs3
      have s4 : Same H H4 := by rw [← hH4]; exact same_own s3 hD0
      clear hH4 hl3 hn3 hs3 s3 tz hz hl2 hn2 hs2 s2
      refine ⟨_, rfl, _, rfl, s', _, rfl, DGet.k (k := Sum.inr y) hs4, _, rfl, ?_⟩
      cases ev : valV ks (Sum.inr y) with
      | some v =>
        refine iteF ?_
        have ys : y ∈ sn' := Classical.byContradiction fun z => by
          have := (key_inr eks y).mpr z
          rw [ev] at this
          cases this
        exact ⟨r.length + 51 * (60 - dy.length), by omega, r, sn', dy, _, _, rfl, ⟨s4, ⟨kd, ks, hn4, hs4, ekd, eks⟩, hl4, ci.seen ys⟩, Nat.le_refl _, by omega, fun e => absurd e em'⟩
      | none =>
        refine iteT ?_
        have ny : y ∉ sn' := (key_inr eks y).mp ev
        obtain ⟨a, am, ea, _⟩ := ci.ok y (.inl (List.mem_append_right _ (List.mem_singleton.mpr rfl)))
        have ea' : (g a).x = y := ea
        subst ea'
        have ib := od.ib a am
        obtain ⟨b1, b2, b3, b4, b5⟩ := ib
        refine ⟨_, rfl, _, rfl, s', _, rfl, DPut.k (k := Sum.inr (g a).x) hs4 (sm5k (by omega)), ?_⟩
        have ek5 : (putK ks (Sum.inr (g a).x) (.bl true)).map (·.1) = (sn' ++ [(g a).x]).map Sum.inr := by rw [keys_put ev, eks, List.map_append]; rfl
        have c1 := ci.opened od.nd am rfl
        have s5 : Same H (upd H4 s' (.dK (putK ks (Sum.inr (g a).x) (.bl true)))) := same_own s4 hs0
        have hn5 : upd H4 s' (.dK (putK ks (Sum.inr (g a).x) (.bl true))) n = some (.dK kd) := by rw [upd_ne ns']; exact hn4
        have hl5 : upd H4 s' (.dK (putK ks (Sum.inr (g a).x) (.bl true))) D = some (.lst (r.map V.str)) := by rw [upd_ne sD]; exact hl4
        have hs5 := upd_same (H := H4) (a := s') (o := .dK (putK ks (Sum.inr (g a).x) (.bl true)))
        generalize upd H4 s' (.dK (putK ks (Sum.inr (g a).x) (.bl true))) = H5 at s5 hn5 hl5 hs5 ⊢
        refine ⟨_, rfl, _, rfl, o, as, g, d, a, rfl, s5.seq ho, od.keep s5.tk, by omega, am, fun u H6 s6 hu0 hu => ⟨u, rfl, ⟨_, SqL.of hu⟩, ?_⟩⟩
        have un : u ≠ n := fun e => by rw [e, hn5] at hu0; cases hu0
        have us : u ≠ s' := fun e => by rw [e, hs5] at hu0; cases hu0
        have uD : u ≠ D := fun e => by rw [e, hl5] at hu0; cases hu0
        refine for_list (xs := rngV (g a).f ((g a).l + 1 - (g a).f).toNat) (fun j σ H' => ∃ (wt : List Str) (dy : List Int) (v7 : Option V), σ = [some (.ref o), some (.ref p), some (.ref q), some (.ref n), some (.ref s'), some (.ref D), some (.str (g a).x), v7] ∧ Cw0 H n s' D g as ns ws (fun z e => z = (g a).x ∧ (g a).f + (j : Int) ≤ e) wt (sn' ++ [(g a).x]) dy H' ∧ wt.length + 51 * (60 - dy.length) ≤ m - 1 ∧ H' u = some (.lst (rngV (g a).f ((g a).l + 1 - (g a).f).toNat)))
          ⟨r, dy, v7, rfl, ⟨s5.trans s6, ⟨kd, _, s6 _ _ hn5, s6 _ _ hs5, ekd, ek5⟩, s6 _ _ hl5, by rw [show (g a).f + ((0 : Nat) : Int) = (g a).f by omega]; exact c1⟩, by omega, hu⟩ ?_ ?_ ?_
        · rintro j σ H' _ ⟨_, _, _, rfl, _, _, hu'⟩
          exact SqL.of hu'
        · rintro j v σ H7 hv ⟨wt, dy, v7, rfl, ⟨s7, ⟨kd, ks, hn7, hs7, ekd, eks⟩, hl7, ci7⟩, mm7, hu7⟩
          obtain ⟨hj, rfl⟩ := rngV_get hv
          have dyl : dy.length ≤ 60 := Nat.le_trans (nd_len ns.length dy ci7.nd ci7.dn) nl
          have kdl : kd.length = dy.length := by have := congrArg List.length ekd; simpa using this
          have zj : (g a).f + ((j + 1 : Nat) : Int) = (g a).f + (j : Int) + 1 := by omega
          refine ⟨_, rfl, _, rfl, n, _, rfl, DGet.k (k := Sum.inl ((g a).f + (j : Int))) hn7, _, rfl, ?_⟩
          cases ev : valV kd (Sum.inl ((g a).f + (j : Int))) with
          | some v =>
            refine iteF ?_
            have ys : (g a).f + (j : Int) ∈ dy := Classical.byContradiction fun z => by
              have := (key_inl ekd _).mpr z
              rw [ev] at this
              cases this
            exact ⟨wt, dy, _, rfl, ⟨s7, ⟨kd, ks, hn7, hs7, ekd, eks⟩, hl7, by rw [zj]; exact ci7.old ys⟩, mm7, hu7⟩
          | none =>
            refine iteT ?_
            have ny : (g a).f + (j : Int) ∉ dy := (key_inl ekd _).mp ev
            obtain ⟨i, hi⟩ := Int.eq_ofNat_of_zero_le (show 0 ≤ (g a).f + (j : Int) by omega)
            obtain ⟨wd, hw⟩ : ∃ wd, ws[i]? = some wd := ⟨_, List.getElem?_eq_getElem (by omega)⟩
            obtain ⟨nn, hnn⟩ : ∃ nn, ns[i]? = some nn := ⟨_, List.getElem?_eq_getElem (by omega)⟩
            obtain ⟨qa, hqa⟩ : ∃ qa, qs[i]? = some qa := ⟨_, List.getElem?_eq_getElem (by omega)⟩
            have wle := pk.le i wd nn hw hnn
            have n50 := i5 nn (List.mem_of_getElem? hnn)
            have c8 := PM.CI.newDay pn ed (a := a) (i := i) (by rw [← hi]; exact ci7) am rfl (List.mem_append_right _ (List.mem_singleton.mpr rfl)) (by show (g a).f ≤ _; omega) (by show _ ≤ (g a).l; omega) hw hnn (by rw [← hi]; exact ny)
            rw [← hi] at c8
            have dl8 := nd_len ns.length _ c8.nd c8.dn
            rw [List.length_append, List.length_singleton] at dl8
            refine ⟨_, rfl, _, rfl, n, _, rfl, DPut.k (k := Sum.inl ((g a).f + (j : Int))) hn7 (sm5k (by omega)), ?_⟩
            have ek8 : (putK kd (Sum.inl ((g a).f + (j : Int))) (.bl true)).map (·.1) = (dy ++ [(g a).f + (j : Int)]).map Sum.inl := by rw [keys_put ev, ekd, List.map_append]; rfl
            have s8 : Same H (upd H7 n (.dK (putK kd (Sum.inl ((g a).f + (j : Int))) (.bl true)))) := same_own s7 hn
            have hs8 : upd H7 n (.dK (putK kd (Sum.inl ((g a).f + (j : Int))) (.bl true))) s' = some (.dK ks) := by rw [upd_ne (Ne.symm ns')]; exact hs7
            have hl8 : upd H7 n (.dK (putK kd (Sum.inl ((g a).f + (j : Int))) (.bl true))) D = some (.lst (wt.map V.str)) := by rw [upd_ne nD]; exact hl7
            have hu8 : upd H7 n (.dK (putK kd (Sum.inl ((g a).f + (j : Int))) (.bl true))) u = some (.lst (rngV (g a).f ((g a).l + 1 - (g a).f).toNat)) := by rw [upd_ne un]; exact hu7
            have hn8 := upd_same (H := H7) (a := n) (o := .dK (putK kd (Sum.inl ((g a).f + (j : Int))) (.bl true)))
            generalize upd H7 n (.dK (putK kd (Sum.inl ((g a).f + (j : Int))) (.bl true))) = H8 at s8 hs8 hl8 hu8 hn8 ⊢
            have pl8 := pl.keep s8
            have atq : atI (qs.map V.ref) ((g a).f + (j : Int)) = some (.ref qa) := by rw [hi]; exact atI_nat (by rw [List.getElem?_map, hqa]; rfl)
            obtain ⟨wd', hw', hqd⟩ := paired_get pl8.pr hqa
            rw [hw] at hw'
            cases hw'
            refine ⟨_, rfl, .inl ⟨rfl, _, SqL.of hl8⟩, _, rfl, _, rfl, p, _, _, _, rfl, rfl, pl8.ls, atq, D, qa, _, _, rfl, rfl, hl8, hqd, sz5k (by rw [List.length_map, List.length_map]; omega), ?_⟩
            rw [← List.map_append]
            exact ⟨wt ++ wd, dy ++ [(g a).f + (j : Int)], _, rfl, ⟨same_own s8 hD0, ⟨_, ks, by rw [upd_ne (Ne.symm nD)]; exact hn8, by rw [upd_ne (Ne.symm sD)]; exact hs8, ek8, eks⟩, upd_same, by rw [zj]; exact c8⟩, by rw [List.length_append, List.length_append, List.length_singleton]; omega, by rw [upd_ne uD]; exact hu8⟩
        · rintro σ H7 ⟨wt, dy, v7, rfl, ⟨s7, ex7, hl7, ci7⟩, mm7, hu7⟩
          rw [rng_len] at ci7
          have ci8 : CiP g as ns ws PM.NoP wt (sn' ++ [(g a).x]) dy := PM.CI.closed (a := a) od.nd (by
            rw [show (g a).f + (((g a).l + 1 - (g a).f).toNat : Int) = (g a).l + 1 by omega] at ci7
            exact ci7) am rfl
          exact ⟨wt.length + 51 * (60 - dy.length), by omega, wt, sn' ++ [(g a).x], dy, _, _, rfl, ⟨s7, ex7, hl7, ci8⟩, Nat.le_refl _, by rw [List.length_append, List.length_singleton]; omega, fun e => absurd e em'⟩
    · have w0 : wt = [] := by
        cases wt with
        | nil => rfl
        | cons _ _ => exact absurd rfl hb
      subst w0
      have cl := ci.done
      refine ⟨_, rfl, n, kd, dy, rfl, hn3, ekd, by omega, fun u ds pm pw hu => ?_⟩
      have nd' : ds.Nodup := pm.nodup_iff.mpr ci.nd
      have pw' : ds.Pairwise (· < ·) := by
        refine (pw.and nd').imp fun {x y} h => ?_
        have h1 : x ≤ y := h.1
        have h2 : x ≠ y := h.2
        omega
      have tu := Same.upd (o := .lst (ds.map V.int)) hu
      refine k u ds _ (s3.trans tu) (same_none s3 hu) upd_same pw' (clp_perm cl pm) (fun e => ?_) (by rw [pm.length_eq]; exact dyl)
      have d0 := (em e).2
      subst d0
      exact List.perm_nil.mp pm
end
end K86

namespace K86
open PySem PySem.Spec PyProof.Rows L2 GM TM
theorem lft_len (g : Addr → O4) (ws : List (List Str)) (as : List Addr) : (lft g ws as).length ≤ as.length := List.length_filterMap_le _ _
theorem lft_sum {g : Addr → O4} {ws : List (List Str)} : ∀ {as : List Addr}, (∀ a ∈ as, usd ws (g a).x ≤ (g a).m) → ((lft g ws as).map (·.2)).sum = PM.sm (fun a => mo g a - PM.us (xo g) ws a) as
  | [], _ => rfl
  | a :: as, h => by
    have ih := lft_sum (g := g) (ws := ws) (as := as) fun b hb => h b (List.mem_cons_of_mem _ hb)
    have h0 := h a (List.mem_cons_self ..)
    rw [PM.sm_cons, ← ih]
    show ((List.filterMap (lf1 g ws) (a :: as)).map (·.2)).sum = _
    rw [List.filterMap_cons]
    by_cases c : 0 < lk g ws a
    · rw [show lf1 g ws a = some ((g a).x, lk g ws a) by unfold lf1; rw [if_pos c]]
      show (lk g ws a :: ((lft g ws as).map (·.2))).sum = _
      rw [List.sum_cons]
      rfl
    · rw [show lf1 g ws a = none by unfold lf1; rw [if_neg c]]
      have e : mo g a - PM.us (xo g) ws a = 0 := by
        have c' : ¬ 0 < (g a).m - usd ws (g a).x := c
        show (g a).m - usd ws (g a).x = 0
        omega
      rw [e, Int.zero_add]
      rfl
/-- what planned answers -/
structure Rs (H : Hp) (d : Int) (g : Addr → O4) (as : List Addr) (ns : List Int) (z p : Addr) (qs : List Addr) (ws : List (List Str)) (q : Addr) (bs : List Addr) (zs : List (Str × Int)) (r : Addr) (cs : List Addr) (ps : List (Int × Int)) (H' : Hp) : Prop where
  hz : H' z = some (.tup [.ref p, .ref q, .ref r])
  hp : H' p = some (.lst (qs.map V.ref))
  pr : Paired (fun a (w : List Str) => H' a = some (.lst (w.map V.str)) ∧ H a = none ∧ a ≠ p ∧ a ≠ q ∧ a ≠ r) qs ws
  hq : H' q = some (.lst (bs.map V.ref))
  prs : PrS H' bs zs
  pm : zs.Perm (lft g ws as)
  so : zs.Pairwise fun u v => u.1.cps.toList < v.1.cps.toList
  hr : H' r = some (.lst (cs.map V.ref))
  pp : Pp H' cs ps
  rn : PM.Rn d ps
  p0 : H p = none
  q0 : H q = none
  r0 : H r = none
  pq : p ≠ q
  pr' : p ≠ r
  qr : q ≠ r
  pk : PlOk g as ns ws
  cl : cs.length ≤ 60
  em : zs = [] ↔ ps = []
  eq : PM.pc (fo g) (lo g) (mo g) as ns ps = (zs.map (·.2)).sum
  du : ∀ d' ps', PM.Rn d' ps' → PM.pc (fo g) (lo g) (mo g) as ns ps' ≤ (zs.map (·.2)).sum
theorem Rs.keep {H : Hp} {d : Int} {g : Addr → O4} {as : List Addr} {ns : List Int} {z p : Addr} {qs : List Addr} {ws : List (List Str)} {q : Addr} {bs : List Addr} {zs : List (Str × Int)} {r : Addr} {cs : List Addr} {ps : List (Int × Int)} {H' H'' : Hp}
    (R : Rs H d g as ns z p qs ws q bs zs r cs ps H') (s : Same H' H'') : Rs H d g as ns z p qs ws q bs zs r cs ps H'' :=
  ⟨s _ _ R.hz, s _ _ R.hp, paired_mono (fun a w e => ⟨s _ _ e.1, e.2⟩) R.pr, s _ _ R.hq, R.prs.keep s.tk, R.pm, R.so, s _ _ R.hr, R.pp.keep s.tk, R.rn, R.p0, R.q0, R.r0, R.pq, R.pr', R.qr, R.pk, R.cl, R.em, R.eq, R.du⟩
def spPlanned (K : PySem.W.Frag) (T : Addr) : Sp := fun vs H Q _ => ∃ o as g d t ns, vs = [.ref o, .ref t] ∧ SqL K H o (as.map V.ref) ∧ Od H d as g ∧ d = (ns.length : Int) ∧ SqL K H t (ns.map V.int) ∧ In50 ns ∧ ns.length ≤ 60 ∧ LT H T ∧
  ∀ z p qs ws q bs zs r cs ps H', SameB T H H' → LT H' T → H z = none → Rs H d g as ns z p qs ws q bs zs r cs ps H' → Q (.ref z) H'
theorem sB_none {T : Addr} {H H' : Hp} {x : Addr} (s : SameB T H H') (l : LT H' T) (h : H' x = none) : H x = none := by
  cases e : H x with
  | none => rfl
  | some u =>
    by_cases xT : x = T
    · rcases l with z | ⟨_, _, _, _, _, z, _⟩ <;> rw [xT, z] at h <;> cases h
    · have := s _ _ xT e
      rw [h] at this
      cases this
section
variable {P : Program} {w : World} {K : PySem.W.Frag} {mg : Str → Option Value} {base : Heap}
theorem scPlanned : FnScope ["orders", "turns", "plan", "left"] ["orders", "turns"] (defScope sPlanned) := ⟨rfl, rfl, rfl, by decide +kernel, rfl, by decide +kernel, by decide +kernel⟩
theorem ok_planned {f T : Addr} {fd : FuncData} (F : Fun K "planned" "planned" sPlanned f fd) (cA : Cal P w K mg base CX0 2 "plan_of" ["orders", "turns"] (spPlanOf K T)) (cB : Cal P w K mg base CX0 2 "left_by" ["orders", "plan"] (spLeftBy K))
    (cC : Cal P w K mg base CX0 2 "crowded_days" ["orders", "plan", "left"] (spCrowd K)) (cD : Cal P w K mg base CX0 2 "paper_of_days" ["days"] (spPaperOf K)) : FnOk P w K mg base CX0 3 f fd ["orders", "turns"] (spPlanned K T) := by
  refine F.ok scPlanned (fun vs H Q E h => ?_) (fun cdv A outer s H vs Q E hr h => ?_)
  · obtain ⟨_, _, _, _, _, _, rfl, _⟩ := h
    rfl
  · obtain ⟨o, as, g, d, t, ns, rfl, ho, od, dl, ht, i5, nl, lt, k⟩ := h
    refine ⟨_, (pss_cons (ps_set (i := 2) scPlanned.nd rfl (Or.inl rfl) (pe_cal cA hr rfl pass0 (pa_cons (pv 0) (pa_cons (pv 1) pa_nil))))
      (pss_cons (ps_set (i := 3) scPlanned.nd rfl (Or.inl rfl) (pe_cal cB hr rfl pass0 (pa_cons (pv 0) (pa_cons (pv 2) pa_nil))))
      (pss_one (ps_ret (pe_tup (pa_cons (pv 2) (pa_cons (pv 3) (pa_cons (pe_cal cD hr rfl pass0 (pa_cons (pe_cal cC hr rfl pass0 (pa_cons (pv 0) (pa_cons (pv 2) (pa_cons (pv 3) pa_nil)))) pa_nil)) pa_nil)))))))), ?_⟩
    refine ⟨_, rfl, _, rfl, o, as, g, d, t, ns, rfl, ho, od, ht, i5, nl, lt, fun p qs ws H1 s1 l1 hp0 hp pr pk ed => ?_⟩
    have ho1 : SqL K H1 o (as.map V.ref) := sB_seq s1 lt ho
    have od1 : Od H1 d as g := od.keep (sB_tk s1 lt)
    have ql := paired_len pr
    have wl := pk.ln
    have pl1 : Pl K H1 p qs ws := ⟨SqL.of hp, paired_mono (fun _ _ e => e.1) pr, by omega⟩
    refine ⟨_, rfl, _, rfl, o, as, g, d, p, qs, ws, rfl, ho1, od1, pl1, fun q bs zs H2 s2 hq0 hq prs pmz so => ?_⟩
    have pq : p ≠ q := fun e => by rw [← e, hp] at hq0; cases hq0
    refine ⟨_, rfl, _, rfl, _, rfl, _, rfl, _, rfl, o, as, g, d, ns, p, qs, ws, q, bs, zs, rfl, s2.seq ho1, od1.keep s2.tk, dl, i5, nl, pl1.keep s2, pk, ed, SqL.of hq, prs, pmz, fun u ds H3 s3 hu0 hu pw cl em dl6 => ?_⟩
    refine ⟨u, ds, d, rfl, SqL.of hu, pw, (fun e he => by have := cl.dn e he; omega), dl6, fun r cs ps H4 s4 hr0 hr4 pp rn cv cl6 => ?_⟩
    have s34 := s3.trans s4
    have hp4 := s34 _ _ (s2 _ _ hp)
    have hq4 := s34 _ _ hq
    have pr'' : p ≠ r := fun e => by rw [← e, s3 _ _ (s2 _ _ hp)] at hr0; cases hr0
    have qr : q ≠ r := fun e => by rw [← e, s3 _ _ hq] at hr0; cases hr0
    refine ⟨(by show 3 ≤ sizeLine; decide), fun z hz => ?_⟩
    have tz := Same.upd (o := .tup [.ref p, .ref q, .ref r]) hz
    have sF : Same H1 (upd H4 z (.tup [.ref p, .ref q, .ref r])) := (s2.trans s34).trans tz
    have pn := pn_of od pk
    have sum : (zs.map (·.2)).sum = PM.sm (fun a => mo g a - PM.us (xo g) ws a) as := by
      rw [← lft_sum pk.us]
      exact PM.sm_perm (f := fun z : Str × Int => z.2) pmz
    refine k z p qs ws q bs zs r cs ps _ (s1.step sF) (LamT.keep l1 sF) (sB_none s1 l1 (same_none (s2.trans s34) hz)) ⟨upd_same, tz _ _ hp4, paired_mono (fun a w e => ⟨sF _ _ e.1, e.2.1, e.2.2, (fun z => by rw [z, hq0] at e; exact absurd e.1 (by simp)), fun z => by have := s3 _ _ (s2 _ _ e.1); rw [z, hr0] at this; cases this⟩) pr, tz _ _ hq4, (prs.keep s34.tk).keep tz.tk, pmz, so, tz _ _ hr4, pp.keep tz.tk, rn, hp0, sB_none s1 l1 hq0, sB_none s1 l1 (same_none s2 (same_none s3 hr0)), pq, pr'', qr, pk, cl6, ?_, ?_, ?_⟩
    · constructor
      · intro e
        have d0 := em e
        subst d0
        cases ps with
        | nil => rfl
        | cons y ps =>
          have r0 := rn.al y (List.mem_cons_self ..)
          have := (cv y.1).mpr ⟨y, List.mem_cons_self .., Int.le_refl _, r0.2.1⟩
          exact nomatch this
      · intro e
        subst e
        cases zs with
        | nil => rfl
        | cons y zs =>
          obtain ⟨a, ha, hp', _⟩ := mem_lft.mp (pmz.mem_iff.mp (List.mem_cons_self ..))
          have ib := od.ib a ha
          have := (cv (g a).f).mp (cl.lk a ha (by show usd ws (g a).x < (g a).m; unfold lk at hp'; omega) (g a).f (Int.le_refl _) ib.2.1)
          obtain ⟨_, h, _⟩ := this
          exact nomatch h
    · rw [sum]
      exact PM.Cl.price pn cl rn cv
    · intro d' ps' rn'
      rw [sum]
      exact PM.Pn.dual pn rn'
end
end K86

namespace K86
open PySem PySem.Spec PyProof.Rows L2 GM TM
abbrev MnP (g : Addr → O4) (as : List Addr) (ns : List Int) (n : Int) : Prop := PM.Mn (xo g) (fo g) (lo g) (mo g) as ns n
theorem Rs.mn {H : Hp} {d : Int} {g : Addr → O4} {as : List Addr} {ns : List Int} {z p : Addr} {qs : List Addr} {ws : List (List Str)} {q : Addr} {bs : List Addr} {zs : List (Str × Int)} {r : Addr} {cs : List Addr} {ps : List (Int × Int)} {H' H1 : Hp}
    (R : Rs H d g as ns z p qs ws q bs zs r cs ps H') (od : Od H1 d as g) (e : d = (ns.length : Int)) : MnP g as ns (zs.map (·.2)).sum := by
  have sum : (zs.map (·.2)).sum = PM.sm (fun a => mo g a - PM.us (xo g) ws a) as := by
    rw [← lft_sum R.pk.us]
    exact PM.sm_perm (f := fun z : Str × Int => z.2) R.pm
  refine ⟨?_, ⟨ps, e ▸ R.rn, R.eq⟩, fun d' ps' rn => R.du d' ps' rn, ws, pn_of od R.pk, sum⟩
  rw [sum]
  refine PM.sm_nonneg fun a ha => ?_
  have := R.pk.us a ha
  show 0 ≤ (g a).m - usd ws (g a).x
  omega
def spMany (K : PySem.W.Frag) (T : Addr) : Sp := fun vs H Q _ => ∃ o as g d t ns, vs = [.ref o, .ref t] ∧ SqL K H o (as.map V.ref) ∧ Od H d as g ∧ d = (ns.length : Int) ∧ SqL K H t (ns.map V.int) ∧ In50 ns ∧ ns.length ≤ 60 ∧ LT H T ∧
  ∀ n H', SameB T H H' → LT H' T → MnP g as ns n → Q (.int n) H'
section
variable {P : Program} {w : World} {K : PySem.W.Frag} {mg : Str → Option Value} {base : Heap}
theorem ndOne1 : (["_law_one"] : List Str).Nodup := by decide +kernel
theorem ndNl : (["_law_name", "_law_lacking"] : List Str).Nodup := by decide +kernel
theorem scMany : FnScope ["_law_orders_here", "_law_turns_here", "_law_plan", "_law_left", "_law_paper"] ["_law_orders_here", "_law_turns_here"] (defScope sMany) := ⟨rfl, rfl, rfl, by decide +kernel, rfl, by decide +kernel, by decide +kernel⟩
theorem ok_many {f Tb : Addr} {fd : FuncData} (F : Fun K "_law_many" "_law_many" sMany f fd) (T : Txt mg) (cPl : Cal P w K mg base CX0 3 "planned" ["orders", "turns"] (spPlanned K Tb)) (cW : Cal P w K mg base CX0 3 "_law_whole" ["_law_found"] spWh) : FnOk P w K mg base CX0 4 f fd ["_law_orders_here", "_law_turns_here"] (spMany K Tb) := by
  refine F.ok scMany (fun vs H Q E h => ?_) (fun cdv A outer s H vs Q E hr h => ?_)
  · obtain ⟨_, _, _, _, _, _, rfl, _⟩ := h
    rfl
  · obtain ⟨o, as, g, d, t, ns, rfl, ho, od, dl, ht, i5, nl, lt, k⟩ := h
    refine ⟨_, (pss_cons (ps_asg (pe_cal cPl hr rfl pass0 (pa_cons (pe_callTy (call_list_ofK (K := K) rfl) rfl T.list' bt_list (pa_cons (pv 0) pa_nil)) (pa_cons (pe_callTy (call_list_ofK (K := K) rfl) rfl T.list' bt_list (pa_cons (pv 1) pa_nil)) pa_nil))) (pg_tup rfl (pgs_cons (pg_name (i := 2) scMany.nd rfl (Or.inl rfl)) (pgs_cons (pg_name (i := 3) scMany.nd rfl (Or.inl rfl)) (pgs_cons (pg_name (i := 4) scMany.nd rfl (Or.inl rfl)) pgs_nil)))))
      (pss_cons (ps_if (pt_cmpR (op_neE hr.units) (pe_comp (N' := ["_law_one"]) (cl := []) (fun _ => [none]) rfl rfl (by decide +kernel) (by decide +kernel) (clOk_plain (by decide +kernel)) (fun _ _ => blkN_none)
            (pi_list (pv 3)) (fun _ _ _ _ _ => pg_name (i := 0) ndOne1 rfl (Or.inl rfl))
            (fun _ _ _ _ _ => pifs_one (PW.pt (pw_or (pt_not (pt_val (pe_cal cW hr rfl pass0 (pa_cons (pe_ix (ix_tupK (K := K) rfl) (pv 0) pe_int (fun _ _ => rfl)) pa_nil)))) (pw_or1 (pt_cmpR op_lt (pe_ix (ix_tupK (K := K) rfl) (pv 0) pe_int (fun _ _ => rfl)) pe_int (nomark _)))))) (fun _ _ _ _ _ => pv 0)) (pe_lst pa_nil) (nomark _))
        (pss_one (ps_ret (pe_un un_neg pe_int)))
        pss_nil)
      (pss_one (ps_ret (pe_callB (call_sum rfl) rfl T.sum' boot_sum (pa_cons (pe_comp (N' := ["_law_name", "_law_lacking"]) (cl := []) (g := gTup K 2 (gCons (gName 0) (gCons (gName 1) gNil))) (fun _ => [none, none]) rfl rfl (by decide +kernel) (by decide +kernel) (clOk_plain (by decide +kernel)) (fun _ _ => blkN_none)
            (pi_list (pv 3)) (fun _ _ _ _ _ => pg_tup rfl (pgs_cons (pg_name (i := 0) ndNl rfl (Or.inl rfl) (Or.inr rfl)) (pgs_cons (pg_name (i := 1) ndNl rfl (Or.inl rfl) (Or.inr rfl)) pgs_nil))) (fun _ _ _ _ _ => pifs_nil) (fun _ _ _ _ _ => pv 1)) pa_nil)))))), ?_⟩
    refine ⟨_, rfl, o, _, rfl, .inl ho, fun o2 ho2 => ?_⟩
    have u1 := Same.upd (o := .lst (as.map V.ref)) ho2
    refine ⟨_, rfl, t, _, rfl, .inl (u1.seq ht), fun t2 ht2 => ?_⟩
    have u2 := Same.upd (o := .lst (ns.map V.int)) ht2
    have sB := u1.trans u2
    have bo2 := u2 _ _ (upd_same (H := H) (a := o2) (o := .lst (as.map V.ref)))
    have bt2 := upd_same (H := upd H o2 (.lst (as.map V.ref))) (a := t2) (o := .lst (ns.map V.int))
    generalize upd (upd H o2 (.lst (as.map V.ref))) t2 (.lst (ns.map V.int)) = HB at sB bo2 bt2 ⊢
    have odB := od.keep sB.tk
    have lB : LT HB Tb := LamT.keep lt sB
    refine ⟨o2, as, g, d, t2, ns, rfl, SqL.of bo2, odB, dl, SqL.of bt2, i5, nl, lB, fun z p qs ws q bs zs r cs ps H6 s6 l6 hz0 R => ?_⟩
    refine ⟨z, _, rfl, SqT.of R.hz, rfl, _, _, rfl, _, _, rfl, _, _, rfl, rfl, ?_⟩
    have lb := paired_len R.prs
    have lz := R.pm.length_eq
    have ll := lft_len g ws as
    have la := od.ln
    refine ⟨_, rfl, q, rfl, ⟨_, SqL.of R.hq⟩, fun D hD => ?_⟩
    refine comp_filt (Ys.list (SqL.of R.hq)) (fun _ => false) (fun _ _ _ => False) (fun _ _ _ _ h _ => h) hD (by rw [List.length_map]; omega) (fun i v H' R1 R2 hv sm r1 r2 => ?_) (fun ys H7 s7 hD7 yl hy => ?_)
    · rw [List.getElem?_map] at hv
      obtain ⟨b, hb, rfl⟩ := Option.map_eq_some_iff.mp hv
      obtain ⟨y, hy, e⟩ := paired_get (R.prs.keep sm.tk) hb
      obtain ⟨a, ha, hp, ey⟩ := mem_lft.mp (R.pm.mem_iff.mp (List.mem_of_getElem? hy))
      have y1 : 0 < y.2 := by rw [ey]; exact hp
      exact ⟨(Keep.refl _).set rfl, _, rfl, b, _, _, _, rfl, rfl, SqT.of e, rfl, _, true, rfl, .int, _, rfl, iteF ⟨_, rfl, b, _, _, _, rfl, rfl, SqT.of e, rfl, _, _, rfl, rfl, _, rfl, ite2 (fun x => absurd (of_decide_eq_true x) (by show ¬ y.2 < 1; omega)) (fun _ => r2 rfl _ (Same.refl _))⟩⟩
    have y0 : ys = [] := by
      have : ys.length = 0 := by rw [yl]; exact filt0 _
      exact List.length_eq_zero_iff.mp this
    subst y0
    refine ⟨(by show 0 ≤ sizeLine; decide), fun u hu => ?_⟩
    have tu := Same.upd (o := .lst []) hu
    refine ⟨D, u, [], rfl, rfl, SqL.of (tu _ _ hD7), SqL.of upd_same, _, rfl, iteF ?_⟩
    have s78 := s7.trans tu
    have R8 := R.keep s78
    have l8 : LT (upd H7 u (.lst [])) Tb := LamT.keep l6 s78
    refine ⟨_, rfl, q, rfl, ⟨_, SqL.of R8.hq⟩, fun D2 hD2 => ?_⟩
    refine comp_rel (Ys.list (SqL.of R8.hq)) (fun j _ y _ => ∃ x, zs[j]? = some x ∧ y = .int x.2) (fun _ _ _ _ _ h _ => h) hD2 (by rw [List.length_map]; omega) (fun i v H' Rr hv sm hR => ?_) (fun ys H9 s9 hD9 yl hy => ?_)
    · rw [List.getElem?_map] at hv
      obtain ⟨b, hb, rfl⟩ := Option.map_eq_some_iff.mp hv
      obtain ⟨x, hx, e⟩ := paired_get (R8.prs.keep sm.tk) hb
      exact ⟨b, _, rfl, SqT.of e, rfl, _, _, rfl, _, _, rfl, rfl, ((Keep.refl _).set rfl).set rfl, _, rfl, hR _ _ (Same.refl _) ⟨x, hx, rfl⟩⟩
    rw [List.length_map] at yl
    have ey : ys = (zs.map (·.2)).map V.int := by
      refine list_eq (by rw [List.length_map, List.length_map]; omega) fun j u y hu hj => ?_
      obtain ⟨v, hv⟩ : ∃ v, bs[j]? = some v := ⟨_, List.getElem?_eq_getElem (by have := (List.getElem?_eq_some_iff.mp hj).1; omega)⟩
      obtain ⟨x, hx, rfl⟩ := hy j (.ref v) y (by rw [List.getElem?_map, hv]; rfl) hj
      rw [List.getElem?_map, List.getElem?_map, hx] at hu
      exact Option.some.inj hu
    subst ey
    refine ⟨D2, zs.map (·.2), rfl, SqL.of hD9, ?_⟩
    have sF : Same H6 H9 := s78.trans s9
    exact k _ _ (fun b u nb e => sF _ _ (s6 b u nb (sB _ _ e))) (LamT.keep l8 s9) (Rs.mn R od dl)
def spMore (K : PySem.W.Frag) (T : Addr) : Sp := fun vs H Q _ => ∃ o as g d t ns n c, vs = [.ref o, .ref t, .int n, .int c] ∧ SqL K H o (as.map V.ref) ∧ Od H d as g ∧ d = (ns.length : Int) ∧ 1 ≤ d ∧ SqL K H t (ns.map V.int) ∧ In50 ns ∧ ns.length ≤ 60 ∧ LT H T ∧ MnP g as ns n ∧
  ∀ H', SameB T H H' → LT H' T → Q (.bl true) H'
theorem scMore : FnScope ["_law_orders_here", "_law_turns_here", "_law_many_here", "_law_cell", "_law_day", "_law_more_here", "_law_wider", "_law_found"] ["_law_orders_here", "_law_turns_here", "_law_many_here", "_law_cell"] (defScope sMore) := ⟨rfl, rfl, rfl, by decide +kernel, rfl, by decide +kernel, by decide +kernel⟩
theorem map_set {α β : Type} (f : α → β) (l : List α) (i : Nat) (v : α) : (l.map f).set i (f v) = (l.set i v).map f := by rw [List.map_set]
theorem ok_more {f Tb : Addr} {fd : FuncData} (F : Fun K "_law_more" "_law_more" sMore f fd) (T : Txt mg) (cA : Cal P w K mg base CX0 4 "_law_many" ["_law_orders_here", "_law_turns_here"] (spMany K Tb)) : FnOk P w K mg base CX0 5 f fd ["_law_orders_here", "_law_turns_here", "_law_many_here", "_law_cell"] (spMore K Tb) := by
  refine F.ok scMore (fun vs H Q E h => ?_) (fun cdv A outer s H vs Q E hr h => ?_)
  · obtain ⟨_, _, _, _, _, _, _, _, rfl, _⟩ := h
    rfl
  · obtain ⟨o, as, g, d, t, ns, n, c, rfl, ho, od, dl, d1, ht, i5, nl, lt, mn, k⟩ := h
    refine ⟨_, (pss_cons (ps_set (i := 4) scMore.nd rfl (Or.inl rfl) (pe_op op_mod (pv 3) (pe_callB call_len_seq rfl T.len PySem.boot_len (pa_cons (pv 1) pa_nil))))
      (pss_cons (ps_set (i := 5) scMore.nd rfl (Or.inl rfl) (pe_op op_mod (pe_op op_fdivB (pv 3) pe_int) pe_int))
      (pss_cons (ps_set (i := 6) scMore.nd rfl (Or.inl rfl) (pe_callTy (call_list_ofK (K := K) rfl) rfl T.list' bt_list (pa_cons (pv 1) pa_nil)))
      (pss_cons (ps_asg (pe_callB (call_min2 rfl) rfl T.min' boot_min (pa_cons pe_int (pa_cons (pe_op op_add (pe_ix ix_list (pv 6) (pv 4) (fun _ _ => rfl)) (pv 5)) pa_nil))) (pg_sub (pv 6) (pv 4) set_list))
      (pss_cons (ps_set (i := 7) scMore.nd rfl (Or.inl rfl) (pe_cal cA hr rfl pass0 (pa_cons (pv 0) (pa_cons (pv 6) pa_nil))))
      (pss_one (ps_ret (pe_and (pe_chain op_le op_le (pe_op op_sub (pv 2) (pe_op op_sub (pe_ix ix_list (pv 6) (pv 4) (fun _ _ => rfl)) (pe_ix ix_list (pv 1) (pv 4) (fun _ _ => rfl)))) (pv 7) (pv 2)) (pe_one (pe_cmpR op_ge (pv 7) pe_int (nomark _))))))))))), ?_⟩
    refine ⟨_, rfl, _, rfl, t, _, rfl, .inl ht, _, _, rfl, rfl, (by rw [List.length_map]; omega), ?_⟩
    rw [List.length_map]
    have em := emod_in c (m := (ns.length : Int)) (by omega)
    obtain ⟨i, hi⟩ := Int.eq_ofNat_of_zero_le em.1
    obtain ⟨m, hm⟩ : ∃ m, ns[i]? = some m := ⟨_, List.getElem?_eq_getElem (by omega)⟩
    have e9 := emod_in (c / 30) (m := 9) (by decide)
    have m5 := i5 m (List.mem_of_getElem? hm)
    refine ⟨_, rfl, _, _, rfl, rfl, ⟨by decide, b9⟩, _, _, rfl, rfl, (by show (0 : Int) < 9; decide), ?_⟩
    refine ⟨_, rfl, t, _, rfl, .inl ht, fun u hu => ?_⟩
    have tu := Same.upd (o := .lst (ns.map V.int)) hu
    have at1 : atI (ns.map V.int) (c % (ns.length : Int)) = some (.int m) := by rw [hi]; exact atI_nat (by rw [List.getElem?_map, hm]; rfl)
    refine ⟨_, rfl, _, rfl, u, _, _, _, rfl, rfl, SqL.of upd_same, at1, _, rfl, _, _, rfl, rfl, _, _, rfl, ?_⟩
    generalize hv : (if m + c / 30 % 9 < 50 then m + c / 30 % 9 else 50) = v
    have vb : m ≤ v ∧ v ≤ 50 := by
      rw [← hv]
      split <;> omega
    have ix1 : ixN (ns.map V.int).length (c % (ns.length : Int)) = some i := by
      unfold ixN
      rw [hi, List.length_map, if_pos (by omega), if_pos (by omega)]
      rfl
    refine ⟨_, rfl, _, rfl, u, _, _, i, rfl, rfl, upd_same, ix1, ?_⟩
    rw [map_set]
    have s1 : Same H (upd (upd H u (.lst (ns.map V.int))) u (.lst ((ns.set i v).map V.int))) := same_own tu hu
    have hu1 := upd_same (H := upd H u (.lst (ns.map V.int))) (a := u) (o := .lst ((ns.set i v).map V.int))
    generalize upd (upd H u (.lst (ns.map V.int))) u (.lst ((ns.set i v).map V.int)) = H1 at s1 hu1 ⊢
    have i5' : In50 (ns.set i v) := fun x hx => by
      rcases List.mem_or_eq_of_mem_set hx with z | z
      · exact i5 x z
      · subst z; omega
    have l1 : LT H1 Tb := LamT.keep lt s1
    refine ⟨_, rfl, _, rfl, o, as, g, d, u, ns.set i v, rfl, s1.seq ho, od.keep s1.tk, by rw [List.length_set]; exact dl, SqL.of hu1, i5', by rw [List.length_set]; exact nl, l1, fun n' H2 s2 l2 mn' => ?_⟩
    have mo := PM.Mn.more mn mn' hm vb.1
    have hu2 := s2.lst l1 hu1
    have ht2 : SqL K H2 t (ns.map V.int) := sB_seq s2 l1 (s1.seq ht)
    have at2 : atI ((ns.set i v).map V.int) (c % (ns.length : Int)) = some (.int v) := by rw [hi]; exact atI_nat (by rw [List.getElem?_map, List.getElem?_set_self (by have := (List.getElem?_eq_some_iff.mp hm).1; exact this)]; rfl)
    refine ⟨_, rfl, _, rfl, _, rfl, u, _, _, _, rfl, rfl, SqL.of hu2, at2, _, rfl, _, rfl, t, _, _, _, rfl, rfl, ht2, at1, _, _, rfl, rfl, _, _, rfl, rfl, _, rfl, _, _, rfl, rfl, _, rfl, ite2 (fun _ => ?_) (fun h => absurd (decide_eq_true (show n - (v - m) ≤ n' from mo.1)) h)⟩
    refine ⟨_, rfl, _, _, rfl, rfl, _, rfl, ite2 (fun _ => ?_) (fun h => absurd (decide_eq_true (show n' ≤ n from mo.2)) h)⟩
    refine ⟨_, rfl, _, _, rfl, rfl, ?_⟩
    show Q (V.bl (decide ((0 : Int) ≤ n'))) H2
    rw [decide_eq_true mn'.n0]
    exact k _ (fun b u nb e => s2 b u nb (s1 _ _ e)) l2
def spFewer (K : PySem.W.Frag) (T : Addr) : Sp := fun vs H Q _ => ∃ o as g d t ns n c, vs = [.ref o, .ref t, .int n, .int c] ∧ SqL K H o (as.map V.ref) ∧ Od H d as g ∧ d = (ns.length : Int) ∧ as ≠ [] ∧ SqL K H t (ns.map V.int) ∧ In50 ns ∧ ns.length ≤ 60 ∧ LT H T ∧ MnP g as ns n ∧
  ∀ H', SameB T H H' → LT H' T → Q (.bl true) H'
theorem cut_lo (xs : List V) (i : Nat) (h : i ≤ xs.length) : cutV xs none (some (i : Int)) = xs.take i := by
  unfold cutV
  rw [HT.sIx_nat, HT.sIx_none, Nat.min_eq_left h]
  simp
theorem cut_hi (xs : List V) (i : Nat) (h : i ≤ xs.length) : cutV xs (some (i : Int)) none = xs.drop i := by
  unfold cutV
  rw [HT.sIx_nat, HT.sIx_none, Nat.min_eq_left h]
  rw [List.take_of_length_le]
  rw [List.length_drop]
  exact Nat.le_refl _
theorem perm_cut {α : Type} {as : List α} {i : Nat} {a : α} (h : as[i]? = some a) : as.Perm (a :: (as.take i ++ as.drop (i + 1))) := by
  have e : as = as.take i ++ a :: as.drop (i + 1) := by
    obtain ⟨hl, rfl⟩ := List.getElem?_eq_some_iff.mp h
    rw [List.getElem_cons_drop, List.take_append_drop]
  have p : (as.take i ++ a :: as.drop (i + 1)).Perm (a :: (as.take i ++ as.drop (i + 1))) := List.perm_middle
  rw [← e] at p
  exact p
theorem Od.sub {H : Hp} {d : Int} {as as' : List Addr} {g : Addr → O4} {a : Addr} (h : Od H d as g) (p : as.Perm (a :: as')) : Od H d as' g := by
  have m : ∀ b ∈ as', b ∈ as := fun b hb => p.mem_iff.mpr (List.mem_cons_of_mem _ hb)
  refine ⟨fun b hb => h.tp b (m b hb), fun b hb => h.wr b (m b hb), fun b hb => h.ib b (m b hb), ?_, ?_⟩
  · have q := (p.map fun a => (g a).x).nodup_iff.mp h.nd
    rw [List.map_cons, List.nodup_cons] at q
    exact q.2
  · have := p.length_eq
    have := h.ln
    rw [List.length_cons] at *
    omega
theorem Od.perm {H : Hp} {d : Int} {as as' : List Addr} {g : Addr → O4} (h : Od H d as g) (p : as.Perm as') : Od H d as' g :=
  ⟨fun b hb => h.tp b (p.mem_iff.mpr hb), fun b hb => h.wr b (p.mem_iff.mpr hb), fun b hb => h.ib b (p.mem_iff.mpr hb), (p.map fun a => (g a).x).nodup_iff.mp h.nd, by rw [← p.length_eq]; exact h.ln⟩
theorem scFewer : FnScope ["_law_orders_here", "_law_turns_here", "_law_many_here", "_law_cell", "_law_at", "_law_found"] ["_law_orders_here", "_law_turns_here", "_law_many_here", "_law_cell"] (defScope sFewer) := ⟨rfl, rfl, rfl, by decide +kernel, rfl, by decide +kernel, by decide +kernel⟩
theorem ok_fewer {f Tb : Addr} {fd : FuncData} (F : Fun K "_law_fewer" "_law_fewer" sFewer f fd) (T : Txt mg) (cA : Cal P w K mg base CX0 4 "_law_many" ["_law_orders_here", "_law_turns_here"] (spMany K Tb)) : FnOk P w K mg base CX0 5 f fd ["_law_orders_here", "_law_turns_here", "_law_many_here", "_law_cell"] (spFewer K Tb) := by
  refine F.ok scFewer (fun vs H Q E h => ?_) (fun cdv A outer s H vs Q E hr h => ?_)
  · obtain ⟨_, _, _, _, _, _, _, _, rfl, _⟩ := h
    rfl
  · obtain ⟨o, as, g, d, t, ns, n, c, rfl, ho, od, dl, ne, ht, i5, nl, lt, mn, k⟩ := h
    refine ⟨_, (pss_cons (ps_set (i := 4) scFewer.nd rfl (Or.inl rfl) (pe_op op_mod (pv 3) (pe_callB call_len_seq rfl T.len PySem.boot_len (pa_cons (pv 0) pa_nil))))
      (pss_cons (ps_set (i := 5) scFewer.nd rfl (Or.inl rfl) (pe_cal cA hr rfl pass0 (pa_cons (pe_op op_cat (pe_slice sl_list (pv 0) po_none (po_some (pv 4))) (pe_slice sl_list (pv 0) (po_some (pe_op op_add (pv 4) pe_int)) po_none)) (pa_cons (pv 1) pa_nil))))
      (pss_one (ps_ret (pe_and (pe_chain op_le op_le (pe_op op_sub (pv 2) (pe_ix ix_tup (pe_ix ix_list (pv 0) (pv 4) (fun _ _ => rfl)) pe_int (fun _ _ => rfl))) (pv 5) (pv 2)) (pe_one (pe_cmpR op_ge (pv 5) pe_int (nomark _)))))))), ?_⟩
    have ln := od.ln
    have l0 : 0 < as.length := List.length_pos_iff.mpr ne
    refine ⟨_, rfl, _, rfl, o, _, rfl, .inl ho, _, _, rfl, rfl, (by rw [List.length_map]; omega), ?_⟩
    rw [List.length_map]
    have em := emod_in c (m := (as.length : Int)) (by omega)
    obtain ⟨i, hi⟩ := Int.eq_ofNat_of_zero_le em.1
    obtain ⟨a, ha⟩ : ∃ a, as[i]? = some a := ⟨_, List.getElem?_eq_getElem (by omega)⟩
    have il := (List.getElem?_eq_some_iff.mp ha).1
    have am := List.mem_of_getElem? ha
    have pm := perm_cut ha
    refine ⟨_, rfl, _, rfl, _, rfl, o, _, rfl, ho, fun u hu => ?_⟩
    have tu := Same.upd (o := .lst (cutV (as.map V.ref) none (some (c % (as.length : Int))))) hu
    refine ⟨_, rfl, _, rfl, _, _, rfl, rfl, _, rfl, o, _, rfl, tu.seq ho, fun v hv => ?_⟩
    have tv := Same.upd (o := .lst (cutV (as.map V.ref) (some (c % (as.length : Int) + 1)) none)) hv
    have eu : cutV (as.map V.ref) none (some (c % (as.length : Int))) = (as.take i).map V.ref := by
      rw [hi, cut_lo _ _ (by rw [List.length_map]; omega), List.map_take]
    have ev : cutV (as.map V.ref) (some (c % (as.length : Int) + 1)) none = (as.drop (i + 1)).map V.ref := by
      rw [hi]
      have q := cut_hi (as.map V.ref) (i + 1) (by rw [List.length_map]; omega)
      rw [← List.map_drop] at q
      exact q
    refine ⟨u, v, _, _, rfl, rfl, tv _ _ upd_same, upd_same, sz1000 (by rw [eu, ev, List.length_map, List.length_map, List.length_take, List.length_drop]; omega), fun z hz => ?_⟩
    rw [eu, ev] at hz
    rw [eu] at tu
    rw [ev, eu] at tv
    rw [eu, ev, ← List.map_append]
    have tz := Same.upd (o := .lst ((as.take i ++ as.drop (i + 1)).map V.ref)) hz
    have s1 := (tu.trans tv).trans tz
    have hz1 := upd_same (H := upd (upd H u (.lst ((as.take i).map V.ref))) v (.lst ((as.drop (i + 1)).map V.ref))) (a := z) (o := .lst ((as.take i ++ as.drop (i + 1)).map V.ref))
    generalize upd (upd (upd H u (.lst ((as.take i).map V.ref))) v (.lst ((as.drop (i + 1)).map V.ref))) z (.lst ((as.take i ++ as.drop (i + 1)).map V.ref)) = H1 at s1 hz1 ⊢
    have l1 : LT H1 Tb := LamT.keep lt s1
    refine ⟨_, rfl, z, as.take i ++ as.drop (i + 1), g, d, t, ns, rfl, SqL.of hz1, (od.keep s1.tk).sub pm, dl, s1.seq ht, i5, nl, l1, fun n' H2 s2 l2 mn' => ?_⟩
    have ib := od.ib a am
    have mo := PM.Mn.fewer mn mn' pm ib.2.1 (by have := ib.2.2.2.1; show 0 ≤ (g a).m; omega)
    have ho2 : SqL K H2 o (as.map V.ref) := sB_seq s2 l1 (s1.seq ho)
    have od2 := (od.keep s1.tk).keep (sB_tk s2 l1)
    have at1 : atI (as.map V.ref) (c % (as.length : Int)) = some (.ref a) := by rw [hi]; exact atI_nat (by rw [List.getElem?_map, ha]; rfl)
    refine ⟨_, rfl, _, rfl, _, rfl, o, _, _, _, rfl, rfl, ho2, at1, a, _, _, _, rfl, rfl, SqT.of (od2.tp a am), rfl, _, _, rfl, rfl, _, rfl, _, _, rfl, rfl, _, rfl, ite2 (fun _ => ?_) (fun h => absurd (decide_eq_true (show n - (g a).m ≤ n' from mo.1)) h)⟩
    refine ⟨_, rfl, _, _, rfl, rfl, _, rfl, ite2 (fun _ => ?_) (fun h => absurd (decide_eq_true (show n' ≤ n from mo.2)) h)⟩
    refine ⟨_, rfl, _, _, rfl, rfl, ?_⟩
    show Q (V.bl (decide ((0 : Int) ≤ n'))) H2
    rw [decide_eq_true mn'.n0]
    exact k _ (fun b u nb e => s2 b u nb (s1 _ _ e)) l2
end
end K86

namespace K86
open PySem PySem.Spec PyProof.Rows L2 GM TM
theorem cutN_le (ns : List Int) : (cutN ns (some 2) (some 32)).length ≤ 40 := by
  unfold cutN
  rw [List.length_take]
  have e1 : HT.sIx ns.length 0 (some 2) = min 2 ns.length := HT.sIx_nat ns.length 0 2
  have e2 : HT.sIx ns.length ns.length (some 32) = min 32 ns.length := HT.sIx_nat ns.length ns.length 32
  rw [e1, e2]
  omega
def spLaw (K : PySem.W.Frag) (Tb : Addr) : Sp := fun vs H Q _ => ∃ (a : Addr) (ns : List Int), vs = [.ref a] ∧ SqL K H a (ns.map V.int) ∧ ns.length ≤ 63 ∧ H Tb = some (.tbl #[]) ∧ ∀ H', Q (.bl true) H'
section
variable {P : Program} {w : World} {K : PySem.W.Frag} {mg : Str → Option Value} {base : Heap}
theorem ndOd : (["_law_order"] : List Str).Nodup := by decide +kernel
abbrev Nlw : List Str := ["_law_script", "_law_by_digits", "_law_seed", "_law_days", "_law_turns_here", "_law_orders_here", "_law_many_here", "_law_k", "_law_cell"]
theorem scLaw : FnScope Nlw ["_law_script"] (defScope sLaw) := ⟨rfl, rfl, rfl, by decide +kernel, rfl, by decide +kernel, by decide +kernel⟩
theorem ok_law {f Tb : Addr} {fd : FuncData} (F : Fun K "law" "law" sLaw f fd) (T : Txt mg) (cC : Cal P w K mg base CX0 5 "_law_cell_at" ["_law_script", "_law_k"] (spCell K)) (cM : Cal P w K mg base CX0 5 "_law_mixed" ["_law_cell", "_law_k"] spMixed)
    (cO : Cal P w K mg base CX0 5 "_law_orders" ["_law_cells", "_law_names_here", "_law_days"] (spOrders K)) (cN : Cal P w K mg base CX0 5 "_law_names" ["_law_seed", "_law_many_here"] spNames) (cB : Cal P w K mg base CX0 5 "_law_orders_by" ["_law_cells", "_law_days"] (spOrdBy K))
    (cT : Cal P w K mg base CX0 5 "_law_turns" ["_law_seed", "_law_days"] spTurns) (cU : Cal P w K mg base CX0 5 "_law_turns_by" ["_law_cell", "_law_days"] spTurnsBy) (cA : Cal P w K mg base CX0 5 "_law_many" ["_law_orders_here", "_law_turns_here"] (spMany K Tb))
    (cMo : Cal P w K mg base CX0 5 "_law_more" ["_law_orders_here", "_law_turns_here", "_law_many_here", "_law_cell"] (spMore K Tb)) (cFe : Cal P w K mg base CX0 5 "_law_fewer" ["_law_orders_here", "_law_turns_here", "_law_many_here", "_law_cell"] (spFewer K Tb)) : FnOk P w K mg base CX0 6 f fd ["_law_script"] (spLaw K Tb) := by
  refine F.ok scLaw (fun vs H Q E h => ?_) (fun cdv A outer s H vs Q E hr h => ?_)
  · obtain ⟨_, _, rfl, _⟩ := h
    rfl
  · obtain ⟨a, ns, rfl, hS, _, hTb, k⟩ := h
    refine ⟨_, (pss_cons (ps_set (i := 1) scLaw.nd rfl (Or.inl rfl) (pe_cmpR op_eq (pe_op op_mod (pe_cal cC hr rfl pass0 (pa_cons (pv 0) (pa_cons pe_int pa_nil))) pe_int) pe_int (nomark _)))
      (pss_cons (ps_set (i := 2) scLaw.nd rfl (Or.inl rfl) (pe_cal cM hr rfl pass0 (pa_cons (pe_cal cC hr rfl pass0 (pa_cons (pv 0) (pa_cons pe_int pa_nil))) (pa_cons pe_int pa_nil))))
      (pss_cons (ps_set (i := 3) scLaw.nd rfl (Or.inl rfl) (pe_op op_add pe_int (pe_op op_mod (pv 2) pe_int)))
      (pss_cons (ps_set (i := 4) scLaw.nd rfl (Or.inl rfl) (pe_cal cT hr rfl pass0 (pa_cons (pe_cal cM hr rfl pass0 (pa_cons (pe_cal cC hr rfl pass0 (pa_cons (pv 0) (pa_cons pe_int pa_nil))) (pa_cons pe_int pa_nil))) (pa_cons (pv 3) pa_nil))))
      (pss_cons (ps_set (i := 5) scLaw.nd rfl (Or.inl rfl) (pe_cal cO hr rfl pass0 (pa_cons (pe_slice sl_list (pv 0) (po_some pe_int) (po_some pe_int)) (pa_cons (pe_cal cN hr rfl pass0 (pa_cons (pe_op op_fdivB (pv 2) pe_int) (pa_cons pe_int pa_nil))) (pa_cons (pv 3) pa_nil)))))
      (pss_cons (ps_if (pt_val (pv 1))
        (pss_cons (ps_set (i := 4) scLaw.nd rfl (Or.inl rfl) (pe_cal cU hr rfl pass0 (pa_cons (pe_cal cC hr rfl pass0 (pa_cons (pv 0) (pa_cons pe_int pa_nil))) (pa_cons (pv 3) pa_nil))))
        (pss_one (ps_set (i := 5) scLaw.nd rfl (Or.inl rfl) (pe_cal cB hr rfl pass0 (pa_cons (pe_slice sl_list (pv 0) (po_some pe_int) (po_some pe_int)) (pa_cons (pv 3) pa_nil))))))
        pss_nil)
      (pss_cons (ps_set (i := 6) scLaw.nd rfl (Or.inl rfl) (pe_cal cA hr rfl pass0 (pa_cons (pv 5) (pa_cons (pv 4) pa_nil))))
      (pss_cons (ps_if (PW.pt (pw_or (pt_cmpR op_lt (pv 6) pe_int (nomark _)) (pw_or1 (pt_cmpR op_ne (pe_cal cA hr rfl pass0 (pa_cons (pv 5) (pa_cons (pe_op op_rep (pe_lst (pa_cons pe_int pa_nil)) (pv 3)) pa_nil))) (pe_callB (call_sum rfl) rfl T.sum' boot_sum (pa_cons (pe_comp (N' := ["_law_order"]) (cl := []) (fun _ => [none]) rfl rfl (by decide +kernel) (by decide +kernel) (clOk_plain (by decide +kernel)) (fun _ _ => blkN_none)
            (pi_list (pv 5)) (fun _ _ _ _ _ => pg_name (i := 0) ndOd rfl (Or.inl rfl)) (fun _ _ _ _ _ => pifs_nil) (fun _ _ _ _ _ => pe_ix (ix_tupK (K := K) rfl) (pv 0) pe_int (fun _ _ => rfl))) pa_nil)) (nomark _)))))
        (pss_one (ps_ret pe_bl))
        pss_nil)
      (pss_cons (ps_if (pt_cmpR op_ne (pe_cal cA hr rfl pass0 (pa_cons (pe_rev (pv 5) (po_some (pe_un un_neg pe_int))) (pa_cons (pv 4) pa_nil))) (pv 6) (nomark _))
        (pss_one (ps_ret pe_bl))
        pss_nil)
      (pss_cons (ps_for PassesOwn.never rfl (pi_range1 rfl T.range (pa_cons pe_int pa_nil)) (pg_name (i := 7) scLaw.nd rfl (Or.inl rfl))
        (pss_cons (ps_set (i := 8) scLaw.nd rfl (Or.inl rfl) (pe_cal cM hr rfl pass0 (pa_cons (pe_cal cC hr rfl pass0 (pa_cons (pv 0) (pa_cons (pe_op op_add pe_int (pv 7)) pa_nil))) (pa_cons (pe_op op_add (pv 7) pe_int) pa_nil))))
        (pss_cons (ps_if (pt_not (pt_val (pe_cal cMo hr rfl pass0 (pa_cons (pv 5) (pa_cons (pv 4) (pa_cons (pv 6) (pa_cons (pv 8) pa_nil)))))))
          (pss_one (ps_ret pe_bl))
          pss_nil)
        (pss_one (ps_if (PW.pt (pw_and (pt_cmpR (op_neE hr.units) (pv 5) (pe_lst pa_nil) (nomark _)) (pw_and1 (pt_not (pt_val (pe_cal cFe hr rfl pass0 (pa_cons (pv 5) (pa_cons (pv 4) (pa_cons (pv 6) (pa_cons (pe_op op_fdivB (pv 8) pe_int) pa_nil))))))))))
          (pss_one (ps_ret pe_bl))
          pss_nil)))))
      (pss_one (ps_ret pe_bl)))))))))))), ?_⟩
    refine cut11 ?_; intro r2 r3 r4 r5 r6 r7 r8 r9 r10 r11
    refine ⟨_, rfl, a, ns, 0, rfl, hS, by decide, fun c0 => ⟨_, _, rfl, rfl, (by show (0 : Int) < 2; decide), rfl, ?_⟩⟩
    generalize decide (V.int (c0 % 2) = V.int 0) = b1
    refine ⟨_, rfl, a, ns, 0, rfl, hS, by decide, fun c1 => ⟨c1, 0, rfl, by decide, by decide, fun n n0 nl => ?_⟩⟩
    have e60 := emod_in n (m := 30) (by decide)
    refine ⟨_, rfl, _, _, rfl, rfl, (by show (0 : Int) < 30; decide), _, _, rfl, rfl, ?_⟩
    dsimp only [gName]
    refine st [some (.ref a), some (.bl b1), some (.int n), some (.int (1 + n % 30)), none, none, none, none, none] rfl ?_
    generalize hd : 1 + n % 30 = d
    have d1 : 1 ≤ d := by omega
    have d60 : d ≤ 60 := by omega
    -- the turns
    refine ⟨_, rfl, a, ns, 1, rfl, hS, by decide, fun c2 => ⟨c2, 1, rfl, by decide, by decide, fun n2 n20 n2l => ⟨_, rfl, n2, d, rfl, n20, by omega, d1, d60, fun t ts H3 tl i5 s3 ht0 ht => ?_⟩⟩⟩
    -- the orders
    refine ⟨_, rfl, _, rfl, _, rfl, a, _, rfl, s3.seq hS, fun z hz => ?_⟩
    have t1 := Same.upd (o := .lst (cutV (ns.map V.int) (some 2) (some 32))) hz
    have hz1 : upd H3 z (.lst (cutV (ns.map V.int) (some 2) (some 32))) z = some (.lst ((cutN ns (some 2) (some 32)).map V.int)) := by rw [← cutN_eq]; exact upd_same
    refine ⟨_, rfl, _, _, rfl, rfl, ⟨by decide, b9⟩, n / 60, rfl, Int.ediv_nonneg n0 (by decide), by have := Int.ediv_le_self 60 n0; omega, fun p ws H4 wl ww wn s4 hp0 hp => ?_⟩
    refine ⟨_, rfl, z, _, p, ws, d, rfl, SqL.of (s4 _ _ hz1), SqL.of hp, wl, ww, wn, d1, d60, fun o as g H5 od s5 ho0 ho => ?_⟩
    have s35 := ((s3.trans t1).trans s4).trans s5
    have ht5 := s5 _ _ (s4 _ _ (t1 _ _ ht))
    refine ⟨_, rfl, _, rfl, ?_⟩
    refine if_key (fun σ' H' => ∃ (t : Addr) (ts : List Int) (o : Addr) (as : List Addr) (g : Addr → O4), (ts.length : Int) = d ∧ In50 ts ∧ Od H' d as g ∧ Same H H' ∧ H' o = some (.lst (as.map V.ref)) ∧ H' t = some (.lst (ts.map V.int)) ∧ σ' = [some (.ref a), some (.bl b1), some (.int n), some (.int d), some (.ref t), some (.ref o), none, none, none]) (fun key _ => ?_) (fun _ => ⟨t, ts, o, as, g, tl, i5, od, s35, ho, ht5, rfl⟩) ?_
    · refine ⟨_, rfl, a, ns, 1, rfl, s35.seq hS, by decide, fun c3 => ⟨_, rfl, c3, d, rfl, d1, d60, fun t' ts' H4 tl' i5' s4' ht0' ht' => ?_⟩⟩
      have s6 := s35.trans s4'
      refine ⟨_, rfl, _, rfl, _, rfl, a, _, rfl, s6.seq hS, fun z2 hz2 => ?_⟩
      have t2 := Same.upd (o := .lst (cutV (ns.map V.int) (some 2) (some 32))) hz2
      refine ⟨_, rfl, z2, cutN ns (some 2) (some 32), d, rfl, SqL.of (by rw [← cutN_eq]; exact upd_same), cutN_le ns, d1, d60, fun o' as' g' H6 od' s7 ho0' ho' => ?_⟩
      exact key _ _ ⟨t', ts', o', as', g', tl', i5', od', (s6.trans t2).trans s7, ho', s7 _ _ (t2 _ _ ht'), rfl⟩
    clear ho0 ho od s35 ht5 s5 hp hp0 s4 hz1 t1 hz ht s3 ht0 tl i5
    rintro _ H5 ⟨t, ts, o, as, g, tl, i5, od, s5, ho, ht, rfl⟩
    have lT : LT H5 Tb := .inl (s5 _ _ hTb)
    -- how much is left
    refine ⟨_, rfl, _, rfl, o, as, g, d, t, ts, rfl, SqL.of ho, od, tl.symm, SqL.of ht, i5, by omega, lT, fun m H6 s6 l6 mn => ?_⟩
    have o6 := s6.lst lT ho
    have t6 := s6.lst lT ht
    have od6 := od.keep (sB_tk s6 lT)
    have m0 := mn.n0
    dsimp only [gName]
    refine st [some (.ref a), some (.bl b1), some (.int n), some (.int d), some (.ref t), some (.ref o), some (.int m), none, none] rfl ?_
    refine ⟨_, rfl, _, _, rfl, rfl, _, rfl, ite2 (fun h => absurd (of_decide_eq_true h) (by show ¬ m < 0; omega)) (fun _ => ?_)⟩
    -- no turns
    refine ⟨_, rfl, (by show 1 ≤ sizeLine; decide), fun u hu => ?_⟩
    have tu := Same.upd (o := .lst [.int 0]) hu
    refine ⟨_, rfl, u, d, _, rfl, rfl, upd_same, by omega, by omega, sz1000 (by show 1 * d.toNat ≤ 1000; omega), fun v hv => ?_⟩
    have tv := Same.upd (o := .lst (List.replicate d.toNat [V.int 0]).flatten) hv
    have ev : (List.replicate d.toNat [V.int 0]).flatten = (List.replicate d.toNat (0 : Int)).map V.int := by
      generalize d.toNat = e
      induction e with
      | zero => rfl
      | succ e ih => rw [List.replicate_succ, List.flatten_cons, ih, List.replicate_succ, List.map_cons]; rfl
    have hv7 : upd (upd H6 u (.lst [.int 0])) v (.lst (List.replicate d.toNat [V.int 0]).flatten) v = some (.lst ((List.replicate d.toNat (0 : Int)).map V.int)) := by rw [← ev]; exact upd_same
    have s67 := tu.trans tv
    generalize upd (upd H6 u (.lst [.int 0])) v (.lst (List.replicate d.toNat [V.int 0]).flatten) = H7 at hv7 s67 ⊢
    have l7 : LT H7 Tb := LamT.keep l6 s67
    have o7 := s67 _ _ o6
    have t7 := s67 _ _ t6
    have od7 := od6.keep s67.tk
    refine ⟨o, as, g, d, v, List.replicate d.toNat 0, rfl, SqL.of o7, od7, by rw [List.length_replicate]; omega, SqL.of hv7, (fun x hx => by rw [List.eq_of_mem_replicate hx]; decide), by rw [List.length_replicate]; omega, l7, fun m2 H8 s8 l8 mn2 => ?_⟩
    have e2 := PM.Mn.none mn2 fun x hx => List.eq_of_mem_replicate hx
    have o8 := s8.lst l7 o7
    have t8 := s8.lst l7 t7
    have od8 := od7.keep (sB_tk s8 l7)
    have la := od.ln
    refine ⟨_, rfl, o, rfl, ⟨_, SqL.of o8⟩, fun D hD => ?_⟩
    refine comp_rel (Ys.list (SqL.of o8)) (fun j _ y _ => ∃ b, as[j]? = some b ∧ y = .int (g b).m) (fun _ _ _ _ _ h _ => h) hD (by rw [List.length_map]; omega) (fun i v H' R hv sm hR => ?_) (fun ys H9 s9 hD9 yl hy => ?_)
    · rw [List.getElem?_map] at hv
      obtain ⟨b, hb, rfl⟩ := Option.map_eq_some_iff.mp hv
      exact ⟨(Keep.refl _).set rfl, _, rfl, b, _, _, _, rfl, rfl, SqT.of (sm _ _ (od8.tp b (List.mem_of_getElem? hb))), rfl, hR _ _ (Same.refl _) ⟨b, hb, rfl⟩⟩
    rw [List.length_map] at yl
    have ey : ys = (as.map fun b => (g b).m).map V.int := by
      refine list_eq (by rw [List.length_map, List.length_map]; exact yl) fun j u y hu hj => ?_
      obtain ⟨b, hb⟩ : ∃ b, as[j]? = some b := ⟨_, List.getElem?_eq_getElem (by have := (List.getElem?_eq_some_iff.mp hj).1; omega)⟩
      obtain ⟨b', hb', rfl⟩ := hy j (.ref b) y (by rw [List.getElem?_map, hb]; rfl) hj
      rw [List.getElem?_map, List.getElem?_map, hb'] at hu
      exact Option.some.inj hu
    subst ey
    refine ⟨D, _, rfl, SqL.of hD9, rfl, _, rfl, ite2 (fun h => ?_) (fun _ => ?_)⟩
    · exfalso
      have e3 : m2 = (as.map fun b => (g b).m).sum := e2
      rw [e3] at h
      simp at h
    have o9 := s9 _ _ o8
    have t9 := s9 _ _ t8
    have od9 := od8.keep s9.tk
    have l9 : LT H9 Tb := LamT.keep l8 s9
    -- the other way about
    refine ⟨_, rfl, _, rfl, _, rfl, rfl, o, _, rfl, SqL.of o9, fun r hr' => ?_⟩
    have tr := Same.upd (o := .lst (as.map V.ref).reverse) hr'
    have hrA : upd H9 r (.lst (as.map V.ref).reverse) r = some (.lst (as.reverse.map V.ref)) := by rw [List.map_reverse]; exact upd_same
    generalize upd H9 r (.lst (as.map V.ref).reverse) = HA at tr hrA ⊢
    have lA : LT HA Tb := LamT.keep l9 tr
    have oA := tr _ _ o9
    have tA := tr _ _ t9
    have odA := od9.keep tr.tk
    have pmr : as.Perm as.reverse := (List.reverse_perm as).symm
    refine ⟨_, rfl, r, as.reverse, g, d, t, ts, rfl, SqL.of hrA, odA.perm pmr, tl.symm, SqL.of tA, i5, by omega, lA, fun m3 HC sC lC mn3 => ?_⟩
    have e3 := PM.Mn.perm mn mn3 pmr
    subst e3
    refine ⟨_, rfl, rfl, _, rfl, ite2 (fun h => by simp at h) (fun _ => ?_)⟩
    have oC := sC.lst lA oA
    have tC := sC.lst lA tA
    have odC := odA.keep (sB_tk sC lA)
    have hSC : SqL K HC a (ns.map V.int) := sB_seq sC lA (tr.seq (s9.seq (sB_seq s8 l7 (s67.seq (sB_seq s6 lT (s5.seq hS))))))
    -- more turns, fewer orders
    refine ⟨3, rfl, by decide, by decide, ?_⟩
    refine for_range (fun i σ H' => ∃ (v7 v8 : Option V), σ = [some (.ref a), some (.bl b1), some (.int n), some (.int d), some (.ref t), some (.ref o), some (.int m3), v7, v8] ∧ SameB Tb HC H' ∧ LT H' Tb) ⟨none, none, rfl, SameB.refl, lC⟩ ?_ ?_
    · rintro i σ HD hi ⟨v7, v8, rfl, sD, lD⟩
      have i3 : i < 3 := by omega
      have oD := sD.lst lC oC
      have tD := sD.lst lC tC
      have odD := odC.keep (sB_tk sD lC)
      have hSD : SqL K HD a (ns.map V.int) := sB_seq sD lC hSC
      refine ⟨_, rfl, _, rfl, _, _, rfl, rfl, a, ns, _, rfl, hSD, by omega, fun c5 => ⟨_, rfl, _, _, rfl, rfl, c5, _, rfl, by omega, by omega, fun c c0 cl => ?_⟩⟩
      refine ⟨_, rfl, _, rfl, _, rfl, _, rfl, o, as, g, d, t, ts, m3, c, rfl, SqL.of oD, odD, tl.symm, d1, SqL.of tD, i5, by omega, lD, mn, fun HE sE lE => ⟨_, rfl, iteF ?_⟩⟩
      have oE := sE.lst lD oD
      have tE := sE.lst lD tD
      have odE := odD.keep (sB_tk sE lD)
      refine ⟨_, rfl, (by show 0 ≤ sizeLine; decide), fun u hu => ?_⟩
      have tu := Same.upd (o := .lst []) hu
      have lF : LT (upd HE u (.lst [])) Tb := LamT.keep lE tu
      have sF : SameB Tb HC (upd HE u (.lst [])) := (sD.trans sE).step tu
      refine ⟨o, u, _, rfl, rfl, SqL.of (tu _ _ oE), SqL.of upd_same, _, rfl, ite2 (fun hb => ?_) (fun hb => iteF ⟨_, _, rfl, sF, lF⟩)⟩
      have ne : as ≠ [] := fun e => by rw [e] at hb; exact absurd hb (by decide)
      refine ⟨_, rfl, _, rfl, _, rfl, _, rfl, _, _, rfl, rfl, ⟨by decide, b9⟩, o, as, g, d, t, ts, m3, c / 270, rfl, SqL.of (tu _ _ oE), odE.keep tu.tk, tl.symm, ne, SqL.of (tu _ _ tE), i5, by omega, lF, mn, fun HG sG lG => ⟨_, rfl, iteF ⟨_, _, rfl, sF.trans sG, lG⟩⟩⟩
    · rintro σ HD ⟨v7, v8, rfl, sD, lD⟩
      exact k _
end
end K86

namespace K86
open PySem PySem.Spec PyProof.Rows L2 GM TM
/-- a def of the top, by its name -/
structure Dn (K : PySem.W.Frag) (x : Str) (st : Stmt) (ps : List Str) : Prop where
  ex : ∃ (f : Addr) (fd : FuncData), PySem.W.nsIn K mainGlobals x = some (some (.ref f)) ∧ Fun K x x st f fd ∧ Binds K fd ps []
theorem Dn.mk' {K : PySem.W.Frag} {x : Str} {st : Stmt} {ps : List Str} {f : Addr} {oc : Value} {od an : Option Addr} {osl : Array (Option Value)} {kV doc pm cdv ct : Value} (a : PySem.W.nsIn K mainGlobals x = some (some (.ref f)))
    (l : K.lookup f = some ⟨oc, od, .func (PySem.W.fnOf x x (defArgs st) (defBody st) (defScope st) .none kV doc pm an cdv ct), osl⟩) (c : PySem.W.codeIn K cdv x = true) (k : PySem.W.keepIn K (.ref f) = true)
    (hb : ∀ (kV doc pm : Value) (an : Option Addr) (cdv ct : Value) (us : List Value), us.length = ps.length → bindArgs (PySem.W.fnOf x x (defArgs st) (defBody st) (defScope st) .none kV doc pm an cdv ct) ⟨us, []⟩ = pure (ps.zip us)) : Dn K x st ps :=
  ⟨f, _, a, fun_mk (st := st) l c k, (fun_mk (st := st) l c k).binds hb⟩
theorem Dn.cal {P : Program} {w : World} {K : PySem.W.Frag} {mg : Str → Option Value} {base h : Heap} {CX : CXT} {k : Nat} {x : Str} {st : Stmt} {ps : List Str} {sp : Sp} (D : Dn K x st ps) (X : K.In h) (G : h.Ns mainGlobals mg)
    (ok : ∀ {f : Addr} {fd : FuncData}, Fun K x x st f fd → FnOk P w K mg base CX k f fd ps sp) : Cal P w K mg base CX k x ps sp := by
  obtain ⟨f, fd, a, F, b⟩ := D.ex
  exact ⟨f, fd, PySem.W.mg_of X G a, F.kp, b, ok F⟩

/-- the def that makes a lambda, its code at c, its table at T -/
structure DnC (K : PySem.W.Frag) (x : Str) (st : Stmt) (ps : List Str) (c T : Addr) : Prop where
  ex : ∃ (f : Addr) (fd : FuncData), PySem.W.nsIn K mainGlobals x = some (some (.ref f)) ∧ FunC K x x st f fd c ∧ Binds K fd ps []
  tab : PySem.W.tabIn K x = some (c, T)
theorem DnC.mk' {K : PySem.W.Frag} {x : Str} {st : Stmt} {ps : List Str} {f c T : Addr} {oc oc' : Value} {od an od' : Option Addr} {osl osl' : Array (Option Value)} {kV doc pm ct : Value} {vs : Array Value} (a : PySem.W.nsIn K mainGlobals x = some (some (.ref f)))
    (l : K.lookup f = some ⟨oc, od, .func (PySem.W.fnOf x x (defArgs st) (defBody st) (defScope st) .none kV doc pm an (.ref c) ct), osl⟩) (hc : PySem.W.codeIn K (.ref c) x = true) (k : PySem.W.keepIn K (.ref f) = true)
    (lc : K.lookup c = some ⟨oc', od', .fields vs, osl'⟩) (hv : vs[11]? = some (.ref T))
    (hb : ∀ (kV doc pm : Value) (an : Option Addr) (cdv ct : Value) (us : List Value), us.length = ps.length → bindArgs (PySem.W.fnOf x x (defArgs st) (defBody st) (defScope st) .none kV doc pm an cdv ct) ⟨us, []⟩ = pure (ps.zip us)) : DnC K x st ps c T := by
  refine ⟨⟨f, _, a, ⟨⟨oc, od, kV, doc, pm, an, ct, osl, rfl, l, hc⟩, k⟩, (fun_mk (st := st) l hc k).binds hb⟩, ?_⟩
  unfold PySem.W.tabIn
  rw [a]
  dsimp only
  rw [l]
  dsimp only [PySem.W.fnOf]
  rw [lc]
  dsimp only
  rw [hv]
theorem DnC.cal {P : Program} {w : World} {K : PySem.W.Frag} {mg : Str → Option Value} {base h : Heap} {CX : CXT} {k : Nat} {x : Str} {st : Stmt} {ps : List Str} {sp : Sp} {c T : Addr} (D : DnC K x st ps c T) (X : K.In h) (G : h.Ns mainGlobals mg)
    (ok : ∀ {f : Addr} {fd : FuncData}, FunC K x x st f fd c → FnOk P w K mg base CX k f fd ps sp) : Cal P w K mg base CX k x ps sp := by
  obtain ⟨f, fd, a, F, b⟩ := D.ex
  exact ⟨f, fd, PySem.W.mg_of X G a, F.kp, b, ok F⟩
structure AllD (K : PySem.W.Frag) : Prop where
  dLeftBy : Dn K "left_by" sLeftBy ["orders", "plan"]
  dPlanned : Dn K "planned" sPlanned ["orders", "turns"]
  dCrowd : Dn K "crowded_days" sCrowd ["orders", "plan", "left"]
  dDaysOf : Dn K "days_of" sDaysOf ["orders", "name"]
  dPaperOf : Dn K "paper_of_days" sPaperOf ["days"]
  dCell : Dn K "_law_cell_at" sCell ["_law_script", "_law_k"]
  dWhole : Dn K "_law_whole" sWhole ["_law_found"]
  dMixed : Dn K "_law_mixed" sMixed ["_law_cell", "_law_k"]
  dOrders : Dn K "_law_orders" sOrders ["_law_cells", "_law_names_here", "_law_days"]
  dNames : Dn K "_law_names" sNames ["_law_seed", "_law_many_here"]
  dTurns : Dn K "_law_turns" sTurns ["_law_seed", "_law_days"]
  dMany : Dn K "_law_many" sMany ["_law_orders_here", "_law_turns_here"]
  dMore : Dn K "_law_more" sMore ["_law_orders_here", "_law_turns_here", "_law_many_here", "_law_cell"]
  dFewer : Dn K "_law_fewer" sFewer ["_law_orders_here", "_law_turns_here", "_law_many_here", "_law_cell"]
  dWord : Dn K "_law_word_by" sWord ["_law_left"]
  dOrdBy : Dn K "_law_orders_by" sOrdBy ["_law_cells", "_law_days"]
  dTurnsBy : Dn K "_law_turns_by" sTurnsBy ["_law_cell", "_law_days"]
  z0 : PySem.W.nsIn K mainGlobals "isinstance" = some none
  z1 : PySem.W.nsIn K mainGlobals "int" = some none
  z2 : PySem.W.nsIn K mainGlobals "bool" = some none
  z3 : PySem.W.nsIn K mainGlobals "tuple" = some none
  z4 : PySem.W.nsIn K mainGlobals "len" = some none
  z5 : PySem.W.nsIn K mainGlobals "range" = some none
  z6 : PySem.W.nsIn K mainGlobals "min" = some none
  z7 : PySem.W.nsIn K mainGlobals "abs" = some none
  z8 : PySem.W.nsIn K mainGlobals "list" = some none
  z9 : PySem.W.nsIn K mainGlobals "sum" = some none
  z10 : PySem.W.nsIn K mainGlobals "sorted" = some none
  z11 : PySem.W.nsIn K mainGlobals "enumerate" = some none
theorem AllD.txt {K : PySem.W.Frag} {mg : Str → Option Value} {h : Heap} (A : AllD K) (X : K.In h) (G : h.Ns mainGlobals mg) : Txt mg := ⟨PySem.W.mg_none_of X G A.z0, PySem.W.mg_none_of X G A.z1, PySem.W.mg_none_of X G A.z2, PySem.W.mg_none_of X G A.z3, PySem.W.mg_none_of X G A.z4, PySem.W.mg_none_of X G A.z5, PySem.W.mg_none_of X G A.z6, PySem.W.mg_none_of X G A.z7, PySem.W.mg_none_of X G A.z8, PySem.W.mg_none_of X G A.z9, PySem.W.mg_none_of X G A.z10, PySem.W.mg_none_of X G A.z11⟩
theorem law_ok {P : Program} {w : World} {K : PySem.W.Frag} {mg : Str → Option Value} {base h : Heap} {f c Tb : Addr} {fd : FuncData} (X : K.In h) (G : h.Ns mainGlobals mg) (A : AllD K) (C : DnC K "plan_of" sPlanOf ["orders", "turns"] c Tb) (B : LamB mg base c Tb) (F : Fun K "law" "law" sLaw f fd) : FnOk P w K mg base CX0 6 f fd ["_law_script"] (spLaw K Tb) := by
  have T : Txt mg := A.txt X G
  have cC : Cal P w K mg base CX0 1 "_law_cell_at" ["_law_script", "_law_k"] (spCell K) := A.dCell.cal X G fun F => ok_cell F T
  have cW : Cal P w K mg base CX0 1 "_law_whole" ["_law_found"] spWh := A.dWhole.cal X G fun F => ok_whole F T
  have cX : Cal P w K mg base CX0 1 "_law_mixed" ["_law_cell", "_law_k"] spMixed := A.dMixed.cal X G ok_mixed
  have cO : Cal P w K mg base CX0 2 "_law_orders" ["_law_cells", "_law_names_here", "_law_days"] (spOrders K) := A.dOrders.cal X G fun F => ok_orders F T cX
  have cN : Cal P w K mg base CX0 1 "_law_names" ["_law_seed", "_law_many_here"] spNames := A.dNames.cal X G fun F => ok_names F T
  have cT : Cal P w K mg base CX0 1 "_law_turns" ["_law_seed", "_law_days"] spTurns := A.dTurns.cal X G fun F => ok_turns F T
  have cLb : Cal P w K mg base CX0 1 "left_by" ["orders", "plan"] (spLeftBy K) := A.dLeftBy.cal X G fun F => ok_leftby F T
  have cPo : Cal P w K mg base CX0 1 "plan_of" ["orders", "turns"] (spPlanOf K Tb) := C.cal X G fun F => ok_planof F T B
  have cDo : Cal P w K mg base CX0 1 "days_of" ["orders", "name"] (spDaysOf K) := A.dDaysOf.cal X G fun F => ok_daysof F T
  have cPa : Cal P w K mg base CX0 1 "paper_of_days" ["days"] (spPaperOf K) := A.dPaperOf.cal X G fun F => ok_paperof F
  have cCr : Cal P w K mg base CX0 2 "crowded_days" ["orders", "plan", "left"] (spCrowd K) := A.dCrowd.cal X G fun F => ok_crowd F T cDo
  have cPl : Cal P w K mg base CX0 3 "planned" ["orders", "turns"] (spPlanned K Tb) := A.dPlanned.cal X G fun F => ok_planned F (cPo.mono (by decide)) (cLb.mono (by decide)) cCr (cPa.mono (by decide))
  have cA : Cal P w K mg base CX0 4 "_law_many" ["_law_orders_here", "_law_turns_here"] (spMany K Tb) := A.dMany.cal X G fun F => ok_many F T cPl (cW.mono (by decide))
  have cMo : Cal P w K mg base CX0 5 "_law_more" ["_law_orders_here", "_law_turns_here", "_law_many_here", "_law_cell"] (spMore K Tb) := A.dMore.cal X G fun F => ok_more F T cA
  have cFe : Cal P w K mg base CX0 5 "_law_fewer" ["_law_orders_here", "_law_turns_here", "_law_many_here", "_law_cell"] (spFewer K Tb) := A.dFewer.cal X G fun F => ok_fewer F T cA
  have cWo : Cal P w K mg base CX0 1 "_law_word_by" ["_law_left"] spWord := A.dWord.cal X G fun F => ok_word F T
  have cB : Cal P w K mg base CX0 2 "_law_orders_by" ["_law_cells", "_law_days"] (spOrdBy K) := A.dOrdBy.cal X G fun F => ok_ordby F T cWo
  have cU : Cal P w K mg base CX0 1 "_law_turns_by" ["_law_cell", "_law_days"] spTurnsBy := A.dTurnsBy.cal X G fun F => ok_turnsby F T
  exact ok_law F T (cC.mono (by decide)) (cX.mono (by decide)) (cO.mono (by decide)) (cN.mono (by decide)) (cB.mono (by decide)) (cT.mono (by decide)) (cU.mono (by decide)) (cA.mono (by decide)) cMo cFe
theorem all_mk {l : PySem.W.OpenLaw} {w : World} {K : PySem.W.Frag} {h : Heap} {mg : Str → Option Value} {fa f4 c T : Addr} (X : K.In h) (G : h.Ns mainGlobals mg) (hfa : mg "law" = some (.ref fa)) (A : AllD K) (C : DnC K "plan_of" sPlanOf ["orders", "turns"] c T) (nt : PySem.W.noTabs K = true)
    {od4 an4 : Option Addr} {sl4 : Array (Option Value)} {oc4 kV4 dc4 pm4 cd4 ct4 : Value}
    (a4 : PySem.W.nsIn K mainGlobals "law" = some (some (.ref f4))) (l4 : K.lookup f4 = some ⟨oc4, od4, .func (PySem.W.fnOf "law" "law" (defArgs sLaw) (defBody sLaw) (defScope sLaw) .none kV4 dc4 pm4 an4 cd4 ct4), sl4⟩) (c4 : PySem.W.codeIn K cd4 "law" = true) (k4 : PySem.W.keepIn K (.ref f4) = true) :
    ∃ (fd : FuncData) (c T : Addr), PySem.W.tabIn K "plan_of" = some (c, T) ∧ PySem.W.noTabs K = true ∧ (∀ (s : Shared) (v : Value), BindsTo s fd ⟨[v], []⟩ [("_law_script", v)]) ∧ ∀ base : Heap, K.In base → base.Ns mainGlobals mg → LamB mg base c T → FnOk l.prog w K mg base CX0 6 fa fd ["_law_script"] (spLaw K T) := by
  have e := hfa.symm.trans (PySem.W.mg_of X G a4)
  cases e
  exact ⟨PySem.W.fnOf "law" "law" (defArgs sLaw) (defBody sLaw) (defScope sLaw) .none kV4 dc4 pm4 an4 cd4 ct4, c, T, C.tab, nt, fun s v => .of_eq rfl, fun base _ _ B => law_ok X G A C B (fun_mk (st := sLaw) l4 c4 k4)⟩
theorem walk {l : PySem.W.OpenLaw} {q : Program} {loose : List Str} {XP : (Str → Option Value) → Heap → Prop} {YP : World → Heap → Prop} {d d0 : DefRec} {K : Params → PySem.W.Frag} (hn : l.most = some 63) (hdf : d.params.defaults = []) (hrec : (recsOf q).find? (fun e => e.name == ("plan_of" : Str)) = some d0)
    (hY : ∀ (w : World) (h : Heap), YP w h → (K w.params).In h)
    (F : ∀ (w : World) (mg : Str → Option Value) (fa : Addr) (h : Heap), (K w.params).In h → h.Ns mainGlobals mg → mg d.name = some (.ref fa) →
      ∃ (fd : FuncData) (c T : Addr), PySem.W.tabIn (K w.params) "plan_of" = some (c, T) ∧ PySem.W.noTabs (K w.params) = true ∧ (∀ (s : Shared) (u : Value), BindsTo s fd ⟨[u], []⟩ [("_law_script", u)]) ∧
        ∀ base : Heap, (K w.params).In base → base.Ns mainGlobals mg → LamB mg base c T → FnOk l.prog w (K w.params) mg base CX0 6 fa fd ["_law_script"] (spLaw (K w.params) T)) :
    PySem.W.WalkO q loose XP YP l.row.toRowW d [] (fun f vs => PySem.call f vs) :=
  L2.walk_ofT (n := 63) (k := 6) (x := "_law_script") (x0 := "plan_of") (CX := fun _ => CX0) (sp := fun w T => spLaw (K w.params) T) hn (by decide) hdf ⟨rfl, by decide, by decide⟩ hrec hY F (fun _ _ _ a ns hl hT hS => ⟨a, ns, rfl, hS, hl, hT, fun _ => rfl⟩) fun _ _ _ _ _ z => z
end K86
open PySem PySem.W PyProof.Rows
set_option maxRecDepth 100000 in
set_option maxHeartbeats 0 in
theorem PySem.Challenge.cw_phialhouse_k86_whole_more_turns_holds : PySem.Challenge.rw_phialhouse_k86_whole_more_turns.Holds := by
  w_on; o_law; k_head; (case hw => w_witness2)
  k_fill
  refine K86.walk (l := PySem.Challenge.rw_phialhouse_k86_whole_more_turns) rfl rfl rfl (fun w h Y => PySem.W.km_in_of Y) ?F
  case F =>
    intro w mg fa h KX G hmg
    have dLeftBy : K86.Dn (L2.KOf KX) "left_by" K86.sLeftBy ["orders", "plan"] := by
      dsimp only [L2.KOf]
      refine' K86.Dn.mk' ?a ?l ?c ?k ?b
      (case a => k_is); (case l => k_is); (case c => k_is); (case k => k_is)
      (case b => exact fun _ _ _ _ _ _ us hl => match us, hl with | [_, _], _ => rfl)
    have dPlanned : K86.Dn (L2.KOf KX) "planned" K86.sPlanned ["orders", "turns"] := by
      dsimp only [L2.KOf]
      refine' K86.Dn.mk' ?a ?l ?c ?k ?b
      (case a => k_is); (case l => k_is); (case c => k_is); (case k => k_is)
      (case b => exact fun _ _ _ _ _ _ us hl => match us, hl with | [_, _], _ => rfl)
    have dCrowd : K86.Dn (L2.KOf KX) "crowded_days" K86.sCrowd ["orders", "plan", "left"] := by
      dsimp only [L2.KOf]
      refine' K86.Dn.mk' ?a ?l ?c ?k ?b
      (case a => k_is); (case l => k_is); (case c => k_is); (case k => k_is)
      (case b => exact fun _ _ _ _ _ _ us hl => match us, hl with | [_, _, _], _ => rfl)
    have dDaysOf : K86.Dn (L2.KOf KX) "days_of" K86.sDaysOf ["orders", "name"] := by
      dsimp only [L2.KOf]
      refine' K86.Dn.mk' ?a ?l ?c ?k ?b
      (case a => k_is); (case l => k_is); (case c => k_is); (case k => k_is)
      (case b => exact fun _ _ _ _ _ _ us hl => match us, hl with | [_, _], _ => rfl)
    have dPaperOf : K86.Dn (L2.KOf KX) "paper_of_days" K86.sPaperOf ["days"] := by
      dsimp only [L2.KOf]
      refine' K86.Dn.mk' ?a ?l ?c ?k ?b
      (case a => k_is); (case l => k_is); (case c => k_is); (case k => k_is)
      (case b => exact fun _ _ _ _ _ _ us hl => match us, hl with | [_], _ => rfl)
    have dCell : K86.Dn (L2.KOf KX) "_law_cell_at" K86.sCell ["_law_script", "_law_k"] := by
      dsimp only [L2.KOf]
      refine' K86.Dn.mk' ?a ?l ?c ?k ?b
      (case a => k_is); (case l => k_is); (case c => k_is); (case k => k_is)
      (case b => exact fun _ _ _ _ _ _ us hl => match us, hl with | [_, _], _ => rfl)
    have dWhole : K86.Dn (L2.KOf KX) "_law_whole" K86.sWhole ["_law_found"] := by
      dsimp only [L2.KOf]
      refine' K86.Dn.mk' ?a ?l ?c ?k ?b
      (case a => k_is); (case l => k_is); (case c => k_is); (case k => k_is)
      (case b => exact fun _ _ _ _ _ _ us hl => match us, hl with | [_], _ => rfl)
    have dMixed : K86.Dn (L2.KOf KX) "_law_mixed" K86.sMixed ["_law_cell", "_law_k"] := by
      dsimp only [L2.KOf]
      refine' K86.Dn.mk' ?a ?l ?c ?k ?b
      (case a => k_is); (case l => k_is); (case c => k_is); (case k => k_is)
      (case b => exact fun _ _ _ _ _ _ us hl => match us, hl with | [_, _], _ => rfl)
    have dOrders : K86.Dn (L2.KOf KX) "_law_orders" K86.sOrders ["_law_cells", "_law_names_here", "_law_days"] := by
      dsimp only [L2.KOf]
      refine' K86.Dn.mk' ?a ?l ?c ?k ?b
      (case a => k_is); (case l => k_is); (case c => k_is); (case k => k_is)
      (case b => exact fun _ _ _ _ _ _ us hl => match us, hl with | [_, _, _], _ => rfl)
    have dNames : K86.Dn (L2.KOf KX) "_law_names" K86.sNames ["_law_seed", "_law_many_here"] := by
      dsimp only [L2.KOf]
      refine' K86.Dn.mk' ?a ?l ?c ?k ?b
      (case a => k_is); (case l => k_is); (case c => k_is); (case k => k_is)
      (case b => exact fun _ _ _ _ _ _ us hl => match us, hl with | [_, _], _ => rfl)
    have dTurns : K86.Dn (L2.KOf KX) "_law_turns" K86.sTurns ["_law_seed", "_law_days"] := by
      dsimp only [L2.KOf]
      refine' K86.Dn.mk' ?a ?l ?c ?k ?b
      (case a => k_is); (case l => k_is); (case c => k_is); (case k => k_is)
      (case b => exact fun _ _ _ _ _ _ us hl => match us, hl with | [_, _], _ => rfl)
    have dMany : K86.Dn (L2.KOf KX) "_law_many" K86.sMany ["_law_orders_here", "_law_turns_here"] := by
      dsimp only [L2.KOf]
      refine' K86.Dn.mk' ?a ?l ?c ?k ?b
      (case a => k_is); (case l => k_is); (case c => k_is); (case k => k_is)
      (case b => exact fun _ _ _ _ _ _ us hl => match us, hl with | [_, _], _ => rfl)
    have dMore : K86.Dn (L2.KOf KX) "_law_more" K86.sMore ["_law_orders_here", "_law_turns_here", "_law_many_here", "_law_cell"] := by
      dsimp only [L2.KOf]
      refine' K86.Dn.mk' ?a ?l ?c ?k ?b
      (case a => k_is); (case l => k_is); (case c => k_is); (case k => k_is)
      (case b => exact fun _ _ _ _ _ _ us hl => match us, hl with | [_, _, _, _], _ => rfl)
    have dFewer : K86.Dn (L2.KOf KX) "_law_fewer" K86.sFewer ["_law_orders_here", "_law_turns_here", "_law_many_here", "_law_cell"] := by
      dsimp only [L2.KOf]
      refine' K86.Dn.mk' ?a ?l ?c ?k ?b
      (case a => k_is); (case l => k_is); (case c => k_is); (case k => k_is)
      (case b => exact fun _ _ _ _ _ _ us hl => match us, hl with | [_, _, _, _], _ => rfl)
    have dWord : K86.Dn (L2.KOf KX) "_law_word_by" K86.sWord ["_law_left"] := by
      dsimp only [L2.KOf]
      refine' K86.Dn.mk' ?a ?l ?c ?k ?b
      (case a => k_is); (case l => k_is); (case c => k_is); (case k => k_is)
      (case b => exact fun _ _ _ _ _ _ us hl => match us, hl with | [_], _ => rfl)
    have dOrdBy : K86.Dn (L2.KOf KX) "_law_orders_by" K86.sOrdBy ["_law_cells", "_law_days"] := by
      dsimp only [L2.KOf]
      refine' K86.Dn.mk' ?a ?l ?c ?k ?b
      (case a => k_is); (case l => k_is); (case c => k_is); (case k => k_is)
      (case b => exact fun _ _ _ _ _ _ us hl => match us, hl with | [_, _], _ => rfl)
    have dTurnsBy : K86.Dn (L2.KOf KX) "_law_turns_by" K86.sTurnsBy ["_law_cell", "_law_days"] := by
      dsimp only [L2.KOf]
      refine' K86.Dn.mk' ?a ?l ?c ?k ?b
      (case a => k_is); (case l => k_is); (case c => k_is); (case k => k_is)
      (case b => exact fun _ _ _ _ _ _ us hl => match us, hl with | [_, _], _ => rfl)
    have z0 : PySem.W.nsIn (L2.KOf KX) mainGlobals "isinstance" = some none := by
      dsimp only [L2.KOf]
      k_is
    have z1 : PySem.W.nsIn (L2.KOf KX) mainGlobals "int" = some none := by
      dsimp only [L2.KOf]
      k_is
    have z2 : PySem.W.nsIn (L2.KOf KX) mainGlobals "bool" = some none := by
      dsimp only [L2.KOf]
      k_is
    have z3 : PySem.W.nsIn (L2.KOf KX) mainGlobals "tuple" = some none := by
      dsimp only [L2.KOf]
      k_is
    have z4 : PySem.W.nsIn (L2.KOf KX) mainGlobals "len" = some none := by
      dsimp only [L2.KOf]
      k_is
    have z5 : PySem.W.nsIn (L2.KOf KX) mainGlobals "range" = some none := by
      dsimp only [L2.KOf]
      k_is
    have z6 : PySem.W.nsIn (L2.KOf KX) mainGlobals "min" = some none := by
      dsimp only [L2.KOf]
      k_is
    have z7 : PySem.W.nsIn (L2.KOf KX) mainGlobals "abs" = some none := by
      dsimp only [L2.KOf]
      k_is
    have z8 : PySem.W.nsIn (L2.KOf KX) mainGlobals "list" = some none := by
      dsimp only [L2.KOf]
      k_is
    have z9 : PySem.W.nsIn (L2.KOf KX) mainGlobals "sum" = some none := by
      dsimp only [L2.KOf]
      k_is
    have z10 : PySem.W.nsIn (L2.KOf KX) mainGlobals "sorted" = some none := by
      dsimp only [L2.KOf]
      k_is
    have z11 : PySem.W.nsIn (L2.KOf KX) mainGlobals "enumerate" = some none := by
      dsimp only [L2.KOf]
      k_is
    have nt : PySem.W.noTabs (L2.KOf KX) = true := by
      dsimp only [L2.KOf]
      kernel_rfl
    refine' K86.all_mk KX G hmg ⟨dLeftBy, dPlanned, dCrowd, dDaysOf, dPaperOf, dCell, dWhole, dMixed, dOrders, dNames, dTurns, dMany, dMore, dFewer, dWord, dOrdBy, dTurnsBy, z0, z1, z2, z3, z4, z5, z6, z7, z8, z9, z10, z11⟩ (K86.DnC.mk' ?ap ?lp ?cp ?kp ?lc ?hv ?bp) nt ?a4 ?l4 ?c4 ?k4
    (case ap => k_is); (case lp => k_is); (case cp => k_is); (case kp => k_is); (case lc => k_is); (case hv => rfl)
    (case bp => exact fun _ _ _ _ _ _ us hl => match us, hl with | [_, _], _ => rfl)
    (case a4 => k_is); (case l4 => k_is); (case c4 => k_is); (case k4 => k_is)

