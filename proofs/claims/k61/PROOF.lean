import PyProof.Rows.All
import Wide.All
import OpenK.AllK
import Wide.FinOn
import Lean
import PyProof.EqAt
import PyProof.EqKinds
import PyProof.TupleCall
import PySem.Challenge.RW_phialhouse_k61_spread_so_deep
set_option Elab.async false
set_option linter.all false
set_option maxRecDepth 100000
set_option maxHeartbeats 4000000
/-! THE HAND LAYER, for ints, bools, texts, own classes, LISTS and tuples (index, slices, in, append, pop ..), calls, loops. Paste it whole ahead of your own text; what your proof does not reach may be deleted. -/
namespace L2
open PySem PySem.Spec PyProof.Rows

/-- a key: an int or a str -/
abbrev Key := Sum Int Str
def keyIs : Key → Value → Bool
  | .inl k, v => Value.isInt k v
  | .inr x, v => Value.isStrOf x v
def keyH (w : World) : Key → Int
  | .inl k => hashInt k
  | .inr x => hashStr w x
theorem keyIs_shape : ∀ {k : Key} {v : Value}, keyIs k v = true → (∃ i t, k = Sum.inl i ∧ v = Value.int i t) ∨ (∃ x t, k = Sum.inr x ∧ v = Value.str x t)
  | .inl i, v, h => by
    obtain ⟨t, e⟩ := Value.isInt_shape (k := i) (v := v) h
    exact .inl ⟨i, t, rfl, e⟩
  | .inr x, v, h => by
    obtain ⟨t, e⟩ := Value.isStrOf_shape (x := x) (v := v) h
    exact .inr ⟨x, t, rfl, e⟩
theorem keyIs_int (i : Int) (t : Tok) : keyIs (.inl i) (.int i t) = true := by simp [keyIs, Value.isInt]
theorem keyIs_str (x : Str) (t : Tok) : keyIs (.inr x) (.str x t) = true := by simp [keyIs, Value.isStrOf]
theorem key_ll (a b : Int) : decide ((Sum.inl a : Key) = Sum.inl b) = (a == b) := by
  by_cases e : a = b
  · subst e; simp
  · have h : ¬ (Sum.inl a : Key) = Sum.inl b := fun q => e (Sum.inl.inj q)
    rw [decide_eq_false h]
    exact (beq_eq_false_iff_ne.mpr e).symm
theorem key_rr (a b : Str) : decide ((Sum.inr a : Key) = Sum.inr b) = decide (a = b) := by
  by_cases e : a = b
  · subst e; simp
  · have h : ¬ (Sum.inr a : Key) = Sum.inr b := fun q => e (Sum.inr.inj q)
    rw [decide_eq_false h, decide_eq_false e]
theorem key_lr (a : Int) (b : Str) : decide ((Sum.inl a : Key) = Sum.inr b) = false := decide_eq_false (fun q => nomatch q)
theorem key_rl (a : Str) (b : Int) : decide ((Sum.inr a : Key) = Sum.inl b) = false := decide_eq_false (fun q => nomatch q)

def mixKind (prog : Program) (w : World) : PySem.KeyKind prog w Key where
  is := keyIs
  hash := keyH w
  inj := fun v a b ha hb => by
    rcases keyIs_shape ha with ⟨i, t, rfl, rfl⟩ | ⟨x, t, rfl, rfl⟩
    · rcases keyIs_shape hb with ⟨j, u, rfl, e⟩ | ⟨y, u, rfl, e⟩
      · injection e with e1 _; rw [e1]
      · exact nomatch e
    · rcases keyIs_shape hb with ⟨j, u, rfl, e⟩ | ⟨y, u, rfl, e⟩
      · exact nomatch e
      · injection e with e1 _; rw [e1]
  byValue := fun k v h => by
    rcases keyIs_shape h with ⟨i, t, rfl, rfl⟩ | ⟨x, t, rfl, rfl⟩ <;> rfl
  pyHash := fun hv h => by
    rcases keyIs_shape hv with ⟨i, t, rfl, rfl⟩ | ⟨x, t, rfl, rfl⟩
    · exact wpAny_pyHash_int h
    · exact wpAny_pyHash_str h
  eqBool := fun hu hv h => by
    rcases keyIs_shape hu with ⟨i, t, rfl, rfl⟩ | ⟨x, t, rfl, rfl⟩
    · rcases keyIs_shape hv with ⟨j, u, rfl, rfl⟩ | ⟨y, u, rfl, rfl⟩
      · rw [key_ll] at h; exact wpAny_eqBool_int h
      · rw [key_lr] at h; exact SeqAt.EqAt.int_str i t y u _ _ _ _ h
    · rcases keyIs_shape hv with ⟨j, u, rfl, rfl⟩ | ⟨y, u, rfl, rfl⟩
      · rw [key_rl] at h; exact SeqAt.EqAt.str_int x t j u _ _ _ _ h
      · rw [key_rr] at h; exact wpAny_eqBool_str h
  «strs» := fun k x t v h => by
    rcases keyIs_shape h with ⟨i, u, rfl, e⟩ | ⟨y, u, rfl, e⟩
    · exact nomatch e
    · injection e with e1 _
      subst e1
      cases v <;> rfl

theorem mixKind_int (prog : Program) (w : World) (i : Int) (t : Tok) : (mixKind prog w).is (.inl i) (.int i t) = true := keyIs_int i t
theorem mixKind_str (prog : Program) (w : World) (x : Str) (t : Tok) : (mixKind prog w).is (.inr x) (.str x t) = true := keyIs_str x t
end L2

namespace L2
open PySem PySem.Spec PyProof.Rows

/-- a value, without the heap -/
inductive V where
  | non | bl (b : Bool) | int (i : Int) | str (x : Str) | byt (b : Array UInt8) | flt (b : UInt64) | ref (a : Addr) | ty (n : String)
  deriving DecidableEq

def RelV : V → Value → Prop
  | .non, u => u = Value.none
  | .bl b, u => u = Value.bool b
  | .int i, u => ∃ t, u = Value.int i t
  | .str x, u => ∃ t, u = Value.str x t
  | .byt b, u => ∃ t, u = Value.bytes b t
  | .flt b, u => ∃ t, u = Value.float b t
  | .ref a, u => u = Value.ref a
  | .ty n, u => u = Value.type n

abbrev Vals : List V → List Value → Prop := Paired RelV
theorem Vals.length {xs : List V} {us : List Value} (r : Vals xs us) : xs.length = us.length := Paired.length r
theorem Vals.get : ∀ {xs : List V} {us : List Value} {i : Nat} {x : V}, Vals xs us → xs[i]? = some x → ∃ u, us[i]? = some u ∧ RelV x u
  | _, _, _, _, .nil, e => by simp at e
  | _, _, 0, _, .cons r _, e => by simp at e; subst e; exact ⟨_, rfl, r⟩
  | _, _, i + 1, x, .cons _ t, e => by
    obtain ⟨u, h1, h2⟩ := Vals.get (i := i) (x := x) t (by simpa using e)
    exact ⟨u, by simpa using h1, h2⟩
theorem Vals.append : ∀ {xs ys : List V} {us ws : List Value}, Vals xs us → Vals ys ws → Vals (xs ++ ys) (us ++ ws)
  | _, _, _, _, .nil, s => s
  | _, _, _, _, .cons r t, s => .cons r (Vals.append t s)
theorem Vals.take : ∀ {xs : List V} {us : List Value} (n : Nat), Vals xs us → Vals (xs.take n) (us.take n)
  | _, _, 0, _ => .nil
  | _, _, _ + 1, .nil => .nil
  | _, _, n + 1, .cons r t => .cons r (Vals.take n t)
theorem Vals.drop : ∀ {xs : List V} {us : List Value} (n : Nat), Vals xs us → Vals (xs.drop n) (us.drop n)
  | _, _, 0, r => r
  | _, _, _ + 1, .nil => .nil
  | _, _, n + 1, .cons _ t => Vals.drop n t
def RelO : Option V → Option Value → Prop
  | some v, some u => RelV v u
  | none, none => True
  | _, _ => False
def KV {κ : Type} : List (κ × V) → List (κ × Value) → Prop := Paired fun (p : κ × V) (q : κ × Value) => p.1 = q.1 ∧ RelV p.2 q.2

/-- a key of a dict (00_mix): an int or a text -/
def kV : Key → V
  | .inl i => .int i
  | .inr x => .str x

/-- what stands at a tracked address -/
inductive HO where
  /-- a list -/
  | lst (xs : List V)
  /-- a tuple (never changes) -/
  | tup (xs : List V)
  /-- a dict whose keys are ints and texts; one whose keys are tuples of ints and texts (the empty one is both) -/
  | dK (kvs : List (Key × V)) | dT (kvs : List (List Key × V))
  /-- a set of ints: its members, its size -/
  | set (S : Int → Bool) (n : Nat)
  /-- an instance of the class at C, its dict at dx, its attributes -/
  | ins (C dx : Addr) (fs : List (Str × V))
  /-- the dict of the instance at x -/
  | own (x : Addr)
  /-- the dict of an exception -/
  | xd (fs : List (Str × V))
  /-- a bound method, f of x -/
  | met (f x : Addr)
  /-- a range object lo, lo + 1, .. below hi -/
  | rng (lo hi : Int)
  /-- a thing that is known to the object (the script; a dict while a loop walks it): read, never written while it is so -/
  | frz (o : Obj) (u : HO)
  /-- a code object's table -/
  | tbl (ps : Array Value)
  /-- any other thing, by what is true of its one object (a def of one's own: SetO a S n := HO.ext fun h => ..) -/
  | ext (φ : Heap → Prop)

abbrev Hp := Addr → Option HO
def upd (H : Hp) (a : Addr) (o : HO) : Hp := fun b => if b = a then some o else H b
theorem upd_same {H : Hp} {a : Addr} {o : HO} : upd H a o a = some o := by unfold upd; rw [if_pos rfl]
theorem upd_ne {H : Hp} {a b : Addr} {o : HO} (h : b ≠ a) : upd H a o b = H b := by unfold upd; rw [if_neg h]
/-- two objects of different content stand apart -/
theorem ne_of {H : Hp} {a b : Addr} {o u : HO} (h : H a = some o) (h' : H b = some u) (d : o ≠ u) : a ≠ b := by
  intro e; subst e; rw [h] at h'; exact d (Option.some.inj h')
theorem ne_of_none {H : Hp} {a b : Addr} {o : HO} (h : H a = some o) (h' : H b = none) : a ≠ b := by
  intro e; subst e; rw [h] at h'; cases h'

/-- no dict of its own -/
def NoD (h : Heap) (a : Addr) : Prop := ∃ o, h.get? a = some o ∧ o.dict = none
section
variable (P : Program) (w : World)
def ObjOk (H : Hp) (h : Heap) (a : Addr) : HO → Prop
  | .lst xs => xs.length ≤ sizeLine ∧ ∃ (its : List Value) (n : Nat), Vals xs its ∧ h.get? a = some { cls := .type "list", data := .seq its.toArray n }
  | .tup xs => (xs.length ≤ sizeLine ∧ NoD h a) ∧ ∃ its : List Value, Vals xs its ∧ IsTup h a its.toArray
  | .dK kvs => kvs.length ≤ sizeLine ∧ (a == sysModules) = false ∧ ∃ vs, KV kvs vs ∧ h.DictOf (mixKind P w) a vs
  | .dT kvs => kvs.length ≤ sizeLine ∧ (a == sysModules) = false ∧ ∃ xs : List (List Key × Addr × Value),
      Paired (fun (p : List Key × V) (q : List Key × Addr × Value) => p.1 = q.1 ∧ H q.2.1 = some (.tup (p.1.map kV)) ∧ RelV p.2 q.2.2) kvs xs ∧
      ∃ o es ep, h.get? a = some o ∧ o.ExactDict ∧ o.data = .dict es ep ∧ es.toList = xs.map (entryOfKey (tupleKind (mixKind P w))) ∧ (xs.map (·.1)).Nodup
  | .set S n => h.SetOf (intKind P w) a S n
  | .ins C dx fs => H dx = some (.own a) ∧ fs.length ≤ 1000 ∧ dx ≠ a ∧ h.get? a = some (PySem.W.instObj C dx) ∧
      ∃ mA, h.Ns1 dx mA ∧ (∀ f, RelO (fs.lookup f) (mA f)) ∧ PySem.Within mA (fs.map (·.1))
  | .own _ => ∃ o, h.get? a = some o
  | .xd fs => ∃ mA, h.Ns1 a mA ∧ ∀ f, RelO (fs.lookup f) (mA f)
  | .rng lo hi => ∃ t u v, h.get? a = some { cls := .type "range", data := .fields #[.int lo t, .int hi u, .int 1 v] }
  | .frz o u => h.get? a = some o ∧ ObjOk H h a u
  | .tbl ps => h.get? a = some { cls := .none, data := .fields ps }
  | .met f x => h.get? a = some (PySem.W.methodObj (.ref f) (.ref x))
  | .ext φ => φ h ∧ (∃ o, h.get? a = some o) ∧ ∀ h1 h2 : Heap, φ h1 → (∀ o, h1.get? a = some o → h2.get? a = some o) → φ h2
/-- the abstract heap is held -/
def HOk (H : Hp) (h : Heap) : Prop := ∀ a o, H a = some o → ObjOk P w H h a o
end

section
variable {P : Program} {w : World} {H H' : Hp} {h h' : Heap} {a : Addr} {o : HO}
theorem ObjOk.lt (x : ObjOk P w H h a o) : a < h.objs.size := by
  cases o with
  | lst xs => obtain ⟨_, _, _, _, e⟩ := x; exact Heap.lt_size e
  | tup xs => obtain ⟨_, _, _, p⟩ := x; exact p.lt
  | dK kvs => obtain ⟨_, _, _, _, o, _, _, e, _⟩ := x; exact Heap.lt_size e
  | dT kvs => obtain ⟨_, _, _, _, o, _, _, e, _⟩ := x; exact Heap.lt_size e
  | set S n => obtain ⟨o, _, _, _, e, _⟩ := x; exact Heap.lt_size e
  | ins C dx fs => obtain ⟨_, _, _, e, _⟩ := x; exact Heap.lt_size e
  | own y => obtain ⟨_, e⟩ := x; exact Heap.lt_size e
  | xd fs => obtain ⟨_, ⟨_, _, _, e, _⟩, _⟩ := x; exact Heap.lt_size e
  | rng lo hi => obtain ⟨_, _, _, e⟩ := x; exact Heap.lt_size e
  | frz ob u => obtain ⟨e, _⟩ := x; exact Heap.lt_size e
  | tbl ps => exact Heap.lt_size (show h.get? a = some _ from x)
  | met f y => exact Heap.lt_size (show h.get? a = some _ from x)
  | ext φ => obtain ⟨_, ⟨_, e⟩, _⟩ := x; exact Heap.lt_size e
theorem Paired.mapP {α β : Type} {F G : α → β → Prop} : ∀ {l₁ : List α} {l₂ : List β}, Paired F l₁ l₂ → (∀ a b, F a b → G a b) → Paired G l₁ l₂
  | _, _, .nil, _ => .nil
  | _, _, .cons r t, f => .cons (f _ _ r) (Paired.mapP t f)
/-- what an object's description leans on: its own object, its own dict, the tuples -/
theorem ObjOk.stay (x : ObjOk P w H h a o) (k : ∀ b u, (b = a ∨ H b = some (.own a)) → h.get? b = some u → h'.get? b = some u)
    (ho : ∀ b, H b = some (.own a) → H' b = some (.own a)) (ht : ∀ b xs, H b = some (.tup xs) → H' b = some (.tup xs)) : ObjOk P w H' h' a o := by
  induction o with
  | lst xs => obtain ⟨z, its, n, r, e⟩ := x; exact ⟨z, its, n, r, k _ _ (.inl rfl) e⟩
  | tup xs => obtain ⟨⟨z, o1, e1, d1⟩, its, r, ob, e, c⟩ := x; exact ⟨⟨z, o1, k _ _ (.inl rfl) e1, d1⟩, its, r, ob, k _ _ (.inl rfl) e, c⟩
  | dK kvs => obtain ⟨z, y, vs, r, ob, es, ep, e, c⟩ := x; exact ⟨z, y, vs, r, ob, es, ep, k _ _ (.inl rfl) e, c⟩
  | dT kvs =>
    obtain ⟨z, y, xs, r, ob, es, ep, e, c⟩ := x
    exact ⟨z, y, xs, Paired.mapP r fun p q z => ⟨z.1, ht _ _ z.2.1, z.2.2⟩, ob, es, ep, k _ _ (.inl rfl) e, c⟩
  | set S n => obtain ⟨ob, es, ep, t, e, c⟩ := x; exact ⟨ob, es, ep, t, k _ _ (.inl rfl) e, c⟩
  | ins C dx fs =>
    obtain ⟨d, z, ne, e, mA, ⟨od, es, ep, e2, c⟩, r⟩ := x
    exact ⟨ho _ d, z, ne, k _ _ (.inl rfl) e, mA, ⟨od, es, ep, k _ _ (.inr d) e2, c⟩, r⟩
  | own y => obtain ⟨ob, e⟩ := x; exact ⟨ob, k _ _ (.inl rfl) e⟩
  | xd fs => obtain ⟨mA, ⟨od, es, ep, e, c⟩, r⟩ := x; exact ⟨mA, ⟨od, es, ep, k _ _ (.inl rfl) e, c⟩, r⟩
  | rng lo hi => obtain ⟨t, u, v, e⟩ := x; exact ⟨t, u, v, k _ _ (.inl rfl) e⟩
  | frz ob u ih => obtain ⟨e, q⟩ := x; exact ⟨k _ _ (.inl rfl) e, ih q⟩
  | tbl ps =>
    have e : h.get? a = some { cls := .none, data := .fields ps } := x
    show h'.get? a = some { cls := .none, data := .fields ps }
    exact k a _ (.inl rfl) e
  | met f y =>
    have e : h.get? a = some (PySem.W.methodObj (.ref f) (.ref y)) := x
    show h'.get? a = some (PySem.W.methodObj (.ref f) (.ref y))
    exact k a _ (.inl rfl) e
  | ext φ => obtain ⟨p, ⟨o, e⟩, st⟩ := x; exact ⟨st _ _ p fun o q => k _ _ (.inl rfl) q, ⟨o, k _ _ (.inl rfl) e⟩, st⟩
theorem HOk.lt (x : HOk P w H h) (e : H a = some o) : a < h.objs.size := (x a o e).lt
theorem HOk.fresh (x : HOk P w H h) (e : h.objs.size ≤ a) : H a = none := by
  cases q : H a with
  | none => rfl
  | some u => exact absurd (Nat.lt_of_lt_of_le (x.lt q) e) (Nat.lt_irrefl _)
/-- every object of the heap is kept -/
theorem HOk.kept (x : HOk P w H h) (k : ∀ b u, h.get? b = some u → h'.get? b = some u) : HOk P w H h' := fun a o e =>
  (x a o e).stay (fun b u _ q => k b u q) (fun _ q => q) fun _ _ q => q
/-- a new object is laid and tracked -/
theorem HOk.laid (x : HOk P w H h) (k : ∀ b u, h.get? b = some u → h'.get? b = some u) (hp : h.objs.size ≤ a) (new : ObjOk P w (upd H a o) h' a o) : HOk P w (upd H a o) h' := fun b u e => by
  have hn := x.fresh hp
  by_cases hb : b = a
  · subst hb; rw [upd_same] at e; cases e; exact new
  · rw [upd_ne hb] at e
    exact (x b u e).stay (fun c v _ q => k c v q) (fun c q => by rw [upd_ne (ne_of_none q hn)]; exact q) fun c xs q => by rw [upd_ne (ne_of_none q hn)]; exact q
end

/-- what may be read as u: it is u, or a known u -/
def Rd (H : Hp) (a : Addr) (u : HO) : Prop := H a = some u ∨ ∃ o, H a = some (.frz o u)
theorem Rd.ok {P : Program} {w : World} {H : Hp} {h : Heap} {a : Addr} {u : HO} (r : Rd H a u) (x : HOk P w H h) : ObjOk P w H h a u := by
  rcases r with r | ⟨o, r⟩
  · exact x a u r
  · obtain ⟨_, q⟩ := x a _ r
    exact q
/-- what may be written -/
def Mut : Option HO → Prop
  | some (.lst _) => True
  | some (.dK _) => True
  | some (.dT _) => True
  | some (.set _ _) => True
  | some (.ins _ _ _) => True
  | some (.ext _) => True
  | _ => False
section
variable {P : Program} {w : World} {H : Hp} {h h' : Heap} {x e : Addr} {o' : HO}
/-- the object at e is changed: x itself, or the dict of the instance x -/
theorem HOk.write (ok : HOk P w H h) (mu : Mut (H x)) (he : e = x ∨ H e = some (.own x)) (k : ∀ b u, b ≠ e → h.get? b = some u → h'.get? b = some u) (heo : ∃ u, h'.get? e = some u)
    (new : ObjOk P w (upd H x o') h' x o') : HOk P w (upd H x o') h' := fun b u q => by
  have nown : ∀ c y, H c = some (.own y) → c ≠ x := fun c y r z => by subst z; rw [r] at mu; exact mu
  have ntup : ∀ c xs, H c = some (.tup xs) → c ≠ x := fun c xs r z => by subst z; rw [r] at mu; exact mu
  by_cases hb : b = x
  · subst hb; rw [upd_same] at q; cases q; exact new
  · rw [upd_ne hb] at q
    by_cases hbe : b = e
    · have q' : H b = some (.own x) := by
        rcases he with z | z
        · exact absurd (hbe.trans z) hb
        · rw [hbe]; exact z
      rw [q] at q'; cases q'
      obtain ⟨v, hv⟩ := heo
      exact ⟨v, by rw [hbe]; exact hv⟩
    · refine (ok b u q).stay (fun c v hc r => k c v ?_ r) (fun c r => by rw [upd_ne (nown c b r)]; exact r) fun c xs r => by rw [upd_ne (ntup c xs r)]; exact r
      rcases hc with rfl | hc
      · exact hbe
      · rintro rfl
        rcases he with z | z
        · exact nown c b hc z
        · rw [hc] at z; cases z; exact hb rfl
end

/-! ### kept unless tracked; of the frames at fs (the callers') the slots may change (an exception that passes writes there); of the records at ex (iterators) nothing is said -/
structure Un (fs ex : List Addr) (H H' : Hp) (h h' : Heap) : Prop where
  keep : ∀ b o, h.get? b = some o → H b = none → b ∉ fs → b ∉ ex → h'.get? b = some o
  slot : ∀ b o, h.get? b = some o → H b = none → b ∈ fs → b ∉ ex → ∃ sl, h'.get? b = some { o with slots := sl }
  free : ∀ b o, h.get? b = some o → H b = none → b ∉ ex → H' b = none
  there : ∀ b o, h.get? b = some o → b ∉ ex → ∃ o', h'.get? b = some o'
  tups : ∀ b xs, H b = some (.tup xs) → H' b = some (.tup xs)
  frzs : ∀ b o u, H b = some (.frz o u) → H' b = some (.frz o u)
  tbls : ∀ b ps, H b = some (.tbl ps) → ∃ more, H' b = some (.tbl (ps ++ more))
section
variable {fs fs' ex ex' : List Addr} {H H1 H2 : Hp} {h h1 h2 h' : Heap} {a x e : Addr} {o : HO}
theorem Un.any (u : Un fs ex H H1 h h1) {b : Addr} {ob : Obj} (q : h.get? b = some ob) (n : H b = none) (hx : b ∉ ex) : ∃ sl, h1.get? b = some { ob with slots := sl } := by
  by_cases hb : b ∈ fs
  · exact u.slot b ob q n hb hx
  · exact ⟨ob.slots, u.keep b ob q n hb hx⟩
theorem Un.kept (k : ∀ b u, h.get? b = some u → h'.get? b = some u) : Un fs ex H H h h' :=
  ⟨fun b ob q _ _ _ => k b ob q, fun b ob q _ _ _ => ⟨ob.slots, k b ob q⟩, fun _ _ _ n _ => n, fun b ob q _ => ⟨ob, k b ob q⟩, fun _ _ q => q, fun _ _ _ q => q, fun _ ps q => ⟨#[], by rw [q]; simp⟩⟩
theorem Un.refl : Un fs ex H H h h := Un.kept fun _ _ q => q
theorem Un.laid (k : ∀ b u, h.get? b = some u → h'.get? b = some u) (hp : h.objs.size ≤ a) (hn : H a = none) : Un fs ex H (upd H a o) h h' where
  keep := fun b u q _ _ _ => k b u q
  slot := fun b u q _ _ _ => ⟨u.slots, k b u q⟩
  free := fun b u q n _ => by rw [upd_ne (Nat.ne_of_lt (Nat.lt_of_lt_of_le (Heap.lt_size q) hp))]; exact n
  there := fun b u q _ => ⟨u, k b u q⟩
  tups := fun b xs q => by rw [upd_ne (ne_of_none q hn)]; exact q
  frzs := fun b u xs q => by rw [upd_ne (ne_of_none q hn)]; exact q
  tbls := fun b ps q => ⟨#[], by rw [upd_ne (ne_of_none q hn), q]; simp⟩
theorem Un.write (mu : Mut (H x)) (he : e = x ∨ H e = some (.own x)) (k : ∀ b u, b ≠ e → h.get? b = some u → h'.get? b = some u) (heo : ∃ u, h'.get? e = some u) : Un fs ex H (upd H x o) h h' := by
  have hx : ∀ b, H b = none → b ≠ x := fun b n z => by subst z; rw [n] at mu; exact mu
  have hb : ∀ b, H b = none → b ≠ e := fun b n z => by
    subst z
    rcases he with r | r
    · exact hx b n r
    · rw [n] at r; cases r
  have hm : ∀ b u, H b = some u → ¬ Mut (some u) → b ≠ x := fun b u q nm z => by subst z; rw [q] at mu; exact nm mu
  refine ⟨fun b u q n _ _ => k b u (hb b n) q, fun b u q n _ _ => ⟨u.slots, k b u (hb b n) q⟩, fun b u q n _ => by rw [upd_ne (hx b n)]; exact n, fun b u q _ => ?_,
    fun b xs q => by rw [upd_ne (hm b _ q fun z => z)]; exact q, fun b u xs q => by rw [upd_ne (hm b _ q fun z => z)]; exact q, fun b ps q => ⟨#[], by rw [upd_ne (hm b _ q fun z => z), q]; simp⟩⟩
  by_cases hbe : b = e
  · subst hbe; exact heo
  · exact ⟨u, k b u hbe q⟩
end

/-! ### the heap without what is tracked -/
def trk (h : Heap) (H : Hp) : List Addr := (List.range h.objs.size).filter fun a => (H a).isSome
def hidT (h : Heap) (H : Hp) : Heap := PySem.W.hideAll h (trk h H)
theorem hidT_size (h : Heap) (H : Hp) : (hidT h H).objs.size = h.objs.size := PySem.W.hideAll_size _ _
theorem hidT_get {h : Heap} {H : Hp} {b : Addr} {o : Obj} (e : h.get? b = some o) (n : H b = none) : (hidT h H).get? b = some o :=
  PySem.W.hideAll_get _ e fun hm => by
    have q : (H b).isSome = true := (List.mem_filter.mp hm).2
    rw [n] at q; simp at q
theorem of_hidT {h : Heap} {H : Hp} {b : Addr} {o : Obj} (e : (hidT h H).get? b = some o) : h.get? b = some o ∧ H b = none := by
  have e' : h.get? b = some o := PySem.W.of_hideAll (trk h H) e
  refine ⟨e', ?_⟩
  cases q : H b with
  | none => rfl
  | some x =>
    have hm : b ∈ trk h H := List.mem_filter.mpr ⟨List.mem_range.mpr (Heap.lt_size e'), by simp [q]⟩
    have z : (hidT h H).get? b = none := PySem.W.hideAll_none (trk h H) hm
    rw [z] at e; cases e

/-! ### OpenK's ledger, filled with every new object but one -/
def allNews (g h : Heap) (L : Addr) : List (Addr × Obj) := (List.range h.objs.size).filterMap fun a => if a = L ∨ (g.get? a).isSome = true then none else (h.get? a).map fun o => (a, o)
def rest (g h : Heap) (L d : Addr) : List (Addr × Obj) := (allNews g h L).filter fun p => decide (p.1 ≠ d)
end L2

namespace L2
open PySem PySem.Spec PyProof.Rows

/-- the module's facts, over the base: the heap at the law's entry without what is tracked there -/
structure Mod (K : PySem.W.Frag) (mg : Str → Option Value) (base : Heap) : Prop where
  kin : K.In base
  glob : base.Ns mainGlobals mg
  blt : ∃ mb, base.Ns builtinsNs mb ∧ ∀ x : Str, x ≠ "__name__" → mb x = bootBuiltins x
  nolimit : base.NoLimit

/-- the context: a def's body (or a comprehension's block) running. base: fixed through the whole law; s₀, H₀: the entry; outer: the frames whose slots others may change (a def's callers); stack: all frames that run;
   ex: iterators that were made ahead of the entry and are walked here (a comprehension's); fn: the names whose cells were made at the entry (a def: all; a comprehension's block: its own); calm: not within an except suite; pn: pins that every state bears; xe: what is wanted of an exception that leaves the code -/
structure Cx where
  prog : Program
  w : World
  K : PySem.W.Frag
  mg : Str → Option Value
  base : Heap
  A : Around
  N : List Str
  s₀ : Shared
  H₀ : Hp
  env : Env
  outer : List Env
  stack : List Env
  ex : List Addr
  fn : Str → Bool
  calm : Bool
  pn : List (Addr × Obj)
  xe : Value → Shared → Prop
/-- the callers' frames -/
def frs (l : List Env) : List Addr := l.filterMap (·.frame)
abbrev Cx.fs (X : Cx) : List Addr := frs X.outer

def Vis (sc : Scope) (x : Str) : Prop := sc.names.lookup x = some .local ∨ sc.names.lookup x = some .cell ∨ sc.names.lookup x = some .free
def Loc (sc : Scope) (x : Str) : Prop := sc.names.lookup x = some .local ∨ sc.names.lookup x = some .cell
def Look (env : Env) (h : Heap) (m : Str → Option Value) (x : Str) (u : Value) : Prop :=
  (env.kindOf x = some .local ∧ m x = some u) ∨ ((env.kindOf x = some .cell ∨ env.kindOf x = some .free) ∧ ∃ c, env.cells.lookup x = some c ∧ h.IsCell c (some u))

structure Cx.Ok (X : Cx) : Prop where
  mod : Mod X.K X.mg X.base
  kind : X.env.scope.kind = .function
  glob : X.env.globals = mainGlobals
  blt : X.env.builtins = builtinsNs
  above : X.s₀.heap.objs.size ≤ X.env.locals
  inj : ∀ x y c, X.env.cells.lookup x = some c → X.env.cells.lookup y = some c → x = y
  has : ∀ x, (X.env.kindOf x = some .cell ∨ X.env.kindOf x = some .free) → ∃ c, X.env.cells.lookup x = some c
  cab : ∀ x c, X.fn x = true → X.env.cells.lookup x = some c → X.s₀.heap.objs.size ≤ c
  hd : X.calm = true → X.A.handled = none
  frames : X.A.frames = some X.stack
  stk : X.stack = X.outer ∨ (X.stack = X.env :: X.outer ∧ X.env.frame = some X.env.locals)
  exf : ∀ b ∈ X.ex, b ≠ X.env.locals ∧ ∀ x c, X.env.cells.lookup x = some c → c ≠ b
  bs : ∀ b o, X.base.get? b = some o → X.s₀.heap.get? b = some o ∧ X.H₀ b = none
  bsz : X.base.objs.size ≤ X.s₀.heap.objs.size
  noex : ∀ b o, X.base.get? b = some o → b ∉ X.ex
  exfs : ∀ b ∈ X.ex, b ∉ X.fs
  funs : X.s₀.heap.FunFrames X.base X.outer
  frf : ∀ b ∈ X.fs, X.H₀ b = none

structure Inv (X : Cx) (pins : List (Addr × Obj)) (σ : List (Option V)) (H : Hp) (s : Shared) : Prop where
  ok : X.Ok
  os : s.os = X.s₀.os
  bare : AllBare s.gens
  base : Un X.fs X.ex X.H₀ H X.s₀.heap s.heap
  loc : ∃ m, s.heap.Ns X.env.locals m ∧ ∀ (i : Nat) (x : Str) (v : V), X.N[i]? = some x → σ[i]? = some (some v) → Vis X.env.scope x → ∃ u, RelV v u ∧ Look X.env s.heap m x u
  cell : ∀ x c, X.env.cells.lookup x = some c → ∃ v, s.heap.IsCell c v
  free : H X.env.locals = none
  freeC : ∀ x c, X.env.cells.lookup x = some c → H c = none
  pin : ∀ p ∈ X.pn ++ pins, s.heap.get? p.1 = some p.2 ∧ H p.1 = none ∧ p.1 ≠ X.env.locals ∧ p.1 ∉ X.fs ∧ ∀ v, p.2.data ≠ .cell v
  hok : HOk X.prog X.w H s.heap
  len : σ.length = X.N.length

section
variable {X : Cx} {pins : List (Addr × Obj)} {σ : List (Option V)} {H H' : Hp} {s : Shared} {h' : Heap}

theorem Cx.Ok.nofr (ok : X.Ok) {b : Addr} {o : Obj} (e : X.base.get? b = some o) : b ∉ X.fs := fun hb => by
  have := (ok.funs.mem hb).1
  rw [e] at this; cases this
theorem Inv.bs (I : Inv X pins σ H s) : ∀ b o, X.base.get? b = some o → s.heap.get? b = some o ∧ H b = none := fun b o e =>
  ⟨I.base.keep b o (I.ok.bs b o e).1 (I.ok.bs b o e).2 (I.ok.nofr e) (I.ok.noex b o e), I.base.free b o (I.ok.bs b o e).1 (I.ok.bs b o e).2 (I.ok.noex b o e)⟩
theorem Inv.bk (I : Inv X pins σ H s) : ∀ b o, X.base.get? b = some o → s.heap.get? b = some o := fun b o e => (I.bs b o e).1
theorem Inv.mod (I : Inv X pins σ H s) : Mod X.K X.mg X.base := I.ok.mod
theorem Inv.kIn (I : Inv X pins σ H s) : X.K.In s.heap := I.ok.mod.kin.keeps I.bk
/-- the frame over the base: for OpenK's rules (K.In X.base is I.mod.kin) -/
theorem Inv.fr (I : Inv X pins σ H s) : ∃ m, Fr X.base X.env.locals s.heap m :=
  let ⟨m, hn, _⟩ := I.loc
  ⟨m, hn, I.bk, Nat.le_trans I.ok.bsz I.ok.above⟩
theorem Inv.lt (I : Inv X pins σ H s) : X.env.locals < s.heap.objs.size := let ⟨_, hn, _⟩ := I.loc; hn.lt
theorem Inv.sz (I : Inv X pins σ H s) : X.s₀.heap.objs.size ≤ s.heap.objs.size := Nat.le_trans I.ok.above (Nat.le_of_lt I.lt)
theorem Inv.nofs (I : Inv X pins σ H s) {a : Addr} (h : s.heap.objs.size ≤ a) : a ∉ X.fs := fun hb => by
  obtain ⟨_, o, ho, _⟩ := I.ok.funs.mem hb
  exact absurd (Nat.lt_of_lt_of_le (Heap.lt_size ho) (Nat.le_trans I.sz h)) (Nat.lt_irrefl _)
theorem Inv.cne (I : Inv X pins σ H s) : ∀ x c, X.env.cells.lookup x = some c → c ≠ X.env.locals := fun x c e z => by
  obtain ⟨v, o, ho, hd⟩ := I.cell x c e
  obtain ⟨m, ⟨o', es, ep, ho', hd', _⟩, _⟩ := I.loc
  rw [z, ho'] at ho; cases ho; rw [hd'] at hd; cases hd
theorem Inv.funs (I : Inv X pins σ H s) : s.heap.FunFrames X.base X.outer := by
  have all : ∀ (l : List Env), (∀ b ∈ frs l, b ∈ X.fs) → X.s₀.heap.FunFrames X.base l → s.heap.FunFrames X.base l := by
    intro l
    induction l with
    | nil => intro _ _; trivial
    | cons env r ih =>
      intro hs hl
      obtain ⟨hk, ⟨L, o, hf, hn, ho, hd⟩, hr⟩ := hl
      have hL : L ∈ X.fs := hs L (by unfold frs; rw [List.filterMap_cons, hf]; exact List.mem_cons_self)
      obtain ⟨sl, e⟩ := I.base.slot L o ho (I.ok.frf L hL) hL fun z => I.ok.exfs L z hL
      exact ⟨hk, ⟨L, _, hf, hn, e, hd⟩, ih (fun b hb => hs b (by unfold frs; rw [List.filterMap_cons, hf]; exact List.mem_cons_of_mem _ hb)) hr⟩
  exact all X.outer (fun _ hb => hb) I.ok.funs

/-- the frames that run, for a call -/
theorem Inv.stack (I : Inv X pins σ H s) : s.heap.FunFrames X.base X.stack := by
  rcases I.ok.stk with e | ⟨e, hf⟩
  · rw [e]; exact I.funs
  · rw [e]
    obtain ⟨m, hn, _⟩ := I.loc
    refine .cons (by rw [I.ok.kind]; decide) hf hn ?_ I.funs
    exact Heap.get?_none_of_le (Nat.le_trans I.ok.bsz I.ok.above)
theorem Inv.stkSub (I : Inv X pins σ H s) : ∀ b ∈ frs X.stack, b ∈ X.env.locals :: X.fs := fun b hb => by
  rcases I.ok.stk with e | ⟨e, hf⟩
  · rw [e] at hb; exact List.mem_cons_of_mem _ hb
  · rw [e] at hb
    unfold frs at hb
    rw [List.filterMap_cons, hf] at hb
    exact hb
theorem Inv.stkFree (I : Inv X pins σ H s) : ∀ b ∈ frs X.stack, H b = none := fun b hb => by
  rcases List.mem_cons.mp (I.stkSub b hb) with e | hb
  · rw [e]; exact I.free
  · obtain ⟨_, o, ho, _⟩ := I.ok.funs.mem hb
    exact I.base.free b o ho (I.ok.frf b hb) fun z => I.ok.exfs b z hb

/-- THE STEP: the untracked objects but the frame and the records at ch are kept (the callers' frames up to slots), the frame's map is kept, the new abstract heap is held -/
theorem Inv.step {g' : Array GenState} {t' : Nat} {d' : Drawn} {ch : List Addr} (I : Inv X pins σ H s)
    (hch : ∀ b ∈ ch, (b ∈ X.ex ∨ X.s₀.heap.objs.size ≤ b) ∧ b ≠ X.env.locals ∧ (∀ x c, X.env.cells.lookup x = some c → c ≠ b) ∧ ∀ p ∈ X.pn ++ pins, p.1 ≠ b)
    (keep : ∀ b o, b ≠ X.env.locals → b ∉ X.fs → b ∉ ch → s.heap.get? b = some o → H b = none → h'.get? b = some o)
    (slot : ∀ b o, b ≠ X.env.locals → b ∈ X.fs → b ∉ ch → s.heap.get? b = some o → H b = none → ∃ sl, h'.get? b = some { o with slots := sl }) (free : ∀ b o, b ∉ ch → s.heap.get? b = some o → H b = none → H' b = none)
    (there : ∀ b o, b ∉ ch → s.heap.get? b = some o → ∃ o', h'.get? b = some o')
    (tups : ∀ b xs, H b = some (.tup xs) → H' b = some (.tup xs)) (frzs : ∀ b o u, H b = some (.frz o u) → H' b = some (.frz o u)) (tbls : ∀ b ps, H b = some (.tbl ps) → ∃ more, H' b = some (.tbl (ps ++ more)))
    (ns : ∀ m, s.heap.Ns X.env.locals m → h'.Ns X.env.locals m) (hok : HOk X.prog X.w H' h') (hg : AllBare g') :
    Inv X pins σ H' { s with heap := h', gens := g', drawn := d', toks := t' } := by
  have neL : ∀ b o, X.s₀.heap.get? b = some o → b ≠ X.env.locals := fun b o e => Nat.ne_of_lt (Nat.lt_of_lt_of_le (Heap.lt_size e) I.ok.above)
  have neC : ∀ b o, X.s₀.heap.get? b = some o → b ∉ X.ex → b ∉ ch := fun b o e hx hb => by
    rcases (hch b hb).1 with z | z
    · exact hx z
    · exact absurd (Nat.lt_of_lt_of_le (Heap.lt_size e) z) (Nat.lt_irrefl _)
  have cellK : ∀ x c, X.env.cells.lookup x = some c → ∀ v, s.heap.IsCell c v → h'.IsCell c v := fun x c e v ⟨o, ho, hd⟩ => by
    have nch : c ∉ ch := fun z => (hch c z).2.2.1 x c e rfl
    by_cases hc : c ∈ X.fs
    · obtain ⟨sl, q⟩ := slot c o (I.cne x c e) hc nch ho (I.freeC x c e)
      exact ⟨_, q, hd⟩
    · exact ⟨o, keep c o (I.cne x c e) hc nch ho (I.freeC x c e), hd⟩
  refine ⟨I.ok, I.os, hg, ⟨fun b o e n hb hx => ?_, fun b o e n hb hx => ?_, fun b o e n hx => ?_, fun b o e hx => ?_, fun b xs e => tups b xs (I.base.tups b xs e), fun b o xs e => frzs b o xs (I.base.frzs b o xs e), fun b ps e => ?_⟩, ?_, fun x c e => ?_, ?_, fun x c e => ?_, fun p hp => ?_, hok, I.len⟩
  · exact keep b o (neL b o e) hb (neC b o e hx) (I.base.keep b o e n hb hx) (I.base.free b o e n hx)
  · obtain ⟨sl, e1⟩ := I.base.slot b o e n hb hx
    obtain ⟨sl', e2⟩ := slot b _ (neL b o e) hb (neC b o e hx) e1 (I.base.free b o e n hx)
    exact ⟨sl', e2⟩
  · obtain ⟨o', e1⟩ := I.base.there b o e hx
    exact free b o' (neC b o e hx) e1 (I.base.free b o e n hx)
  · obtain ⟨o', e1⟩ := I.base.there b o e hx
    exact there b o' (neC b o e hx) e1
  · obtain ⟨m1, e1⟩ := I.base.tbls b ps e
    obtain ⟨m2, e2⟩ := tbls b _ e1
    exact ⟨m1 ++ m2, by rw [e2, Array.append_assoc]⟩
  · obtain ⟨m, hn, hl⟩ := I.loc
    refine ⟨m, ns m hn, fun i x v e1 e2 e3 => ?_⟩
    obtain ⟨u, r, l⟩ := hl i x v e1 e2 e3
    refine ⟨u, r, ?_⟩
    rcases l with l | ⟨k, c, e, z⟩
    · exact .inl l
    · exact .inr ⟨k, c, e, cellK x c e _ z⟩
  · obtain ⟨v, z⟩ := I.cell x c e
    exact ⟨v, cellK x c e v z⟩
  · obtain ⟨m, ⟨o, _, _, ho, _⟩, _⟩ := I.loc
    exact free _ o (fun z => (hch _ z).2.1 rfl) ho I.free
  · obtain ⟨v, o, ho, hd⟩ := I.cell x c e
    exact free c o (fun z => (hch c z).2.2.1 x c e rfl) ho (I.freeC x c e)
  · obtain ⟨e, n, ne, nf, d⟩ := I.pin p hp
    have nch : p.1 ∉ ch := fun z => (hch p.1 z).2.2.2 p hp rfl
    exact ⟨keep p.1 p.2 ne nf nch e n, free p.1 p.2 nch e n, ne, nf, d⟩
/-- .. where the frame's own object is kept too -/
theorem Inv.un {t' : Nat} (I : Inv X pins σ H s) (u : Un X.fs [] H H' s.heap h') (hok : HOk X.prog X.w H' h') : Inv X pins σ H' { s with heap := h', toks := t' } := by
  obtain ⟨m, ⟨o, es, ep, ho, r⟩, _⟩ := id I.loc
  obtain ⟨sl, hL⟩ := u.any ho I.free (by simp)
  exact I.step (g' := s.gens) (d' := s.drawn) (ch := []) (fun _ z => nomatch z) (fun b o _ hb _ e n => u.keep b o e n hb (by simp)) (fun b o _ hb _ e n => u.slot b o e n hb (by simp)) (fun b o _ e n => u.free b o e n (by simp)) (fun b o _ e => u.there b o e (by simp)) u.tups u.frzs u.tbls (fun m' hm => by
    obtain ⟨o', es', ep', ho', r'⟩ := hm
    rw [ho] at ho'; cases ho'
    exact ⟨_, es', ep', hL, r'⟩) hok I.bare
/-- behind a call (or a comprehension's block): the slots of this frame may have changed too, the records at ch may have turned -/
theorem Inv.call {g' : Array GenState} {t' : Nat} {d' : Drawn} {ch : List Addr} (I : Inv X pins σ H s) (u : Un (frs X.stack) ch H H' s.heap h') (hok : HOk X.prog X.w H' h') (hg : AllBare g')
    (hch : ∀ b ∈ ch, (b ∈ X.ex ∨ X.s₀.heap.objs.size ≤ b) ∧ b ≠ X.env.locals ∧ (∀ x c, X.env.cells.lookup x = some c → c ≠ b) ∧ ∀ p ∈ X.pn ++ pins, p.1 ≠ b) :
    Inv X pins σ H' { s with heap := h', gens := g', drawn := d', toks := t' } := by
  obtain ⟨m, ⟨o, es, ep, ho, r⟩, _⟩ := id I.loc
  obtain ⟨sl, hL⟩ := u.any ho I.free fun z => (hch _ z).2.1 rfl
  exact I.step (ch := ch) hch (fun b o hL hb hc e n => u.keep b o e n (fun z => (List.mem_cons.mp (I.stkSub b z)).elim hL hb) hc) (fun b o _ _ hc e n => u.any e n hc) (fun b o hc e n => u.free b o e n hc) (fun b o hc e => u.there b o e hc) u.tups u.frzs u.tbls (fun m' hm => by
    obtain ⟨o', es', ep', ho', r'⟩ := hm
    rw [ho] at ho'; cases ho'
    exact ⟨_, es', ep', hL, r'⟩) hok hg
/-- an untracked record of ours (an iterator) has turned -/
theorem Inv.turned {t' : Nat} {it : Addr} (I : Inv X pins σ H s) (k : ∀ b o, b ≠ it → s.heap.get? b = some o → h'.get? b = some o) (hn : H it = none) (hL : it ≠ X.env.locals)
    (h1 : it ∈ X.ex ∨ X.s₀.heap.objs.size ≤ it) (h2 : ∀ x c, X.env.cells.lookup x = some c → c ≠ it) (h3 : ∀ p ∈ X.pn ++ pins, p.1 ≠ it) : Inv X pins σ H { s with heap := h', toks := t' } := by
  have nit : ∀ b u, H b = some u → b ≠ it := fun b u e z => by rw [z, hn] at e; cases e
  refine I.step (g' := s.gens) (d' := s.drawn) (ch := [it]) (fun b hb => ?_) (fun b o _ _ hc e _ => k b o (fun z => hc (by simp [z])) e) (fun b o _ _ hc e _ => ⟨o.slots, k b o (fun z => hc (by simp [z])) e⟩) (fun _ _ _ _ n => n)
    (fun b o hc e => ⟨o, k b o (fun z => hc (by simp [z])) e⟩) (fun _ _ e => e) (fun _ _ _ e => e) (fun b ps e => ⟨#[], by rw [e]; simp⟩) (fun m hm => ?_) (fun b u e => ?_) I.bare
  · have e : b = it := by simpa using hb
    subst e
    exact ⟨h1, hL, h2, h3⟩
  · obtain ⟨o, es, ep, ho, r⟩ := hm
    exact ⟨o, es, ep, k _ o (Ne.symm hL) ho, r⟩
  · refine (I.hok b u e).stay (fun c v hc q => k c v ?_ q) (fun _ q => q) fun _ _ q => q
    rcases hc with z | z
    · rw [z]; exact nit b u e
    · exact nit c _ z
theorem Inv.tok (I : Inv X pins σ H s) (t : Nat) : Inv X pins σ H { s with toks := t } := I.un (h' := s.heap) (t' := t) Un.refl I.hok
/-- all objects kept -/
theorem Inv.kept {t' : Nat} (I : Inv X pins σ H s) (k : ∀ b u, s.heap.get? b = some u → h'.get? b = some u) : Inv X pins σ H { s with heap := h', toks := t' } := I.un (Un.kept k) (I.hok.kept k)
/-- a new object laid and tracked -/
theorem Inv.laid {a : Addr} {o : HO} {t' : Nat} (I : Inv X pins σ H s) (k : ∀ b u, s.heap.get? b = some u → h'.get? b = some u) (hp : s.heap.objs.size ≤ a) (new : ObjOk X.prog X.w (upd H a o) h' a o) :
    Inv X pins σ (upd H a o) { s with heap := h', toks := t' } := I.un (Un.laid k hp (I.hok.fresh hp)) (I.hok.laid k hp new)
/-- an object written -/
theorem Inv.write {x e : Addr} {o : HO} {t' : Nat} (I : Inv X pins σ H s) (mu : Mut (H x)) (he : e = x ∨ H e = some (.own x)) (k : ∀ b u, b ≠ e → s.heap.get? b = some u → h'.get? b = some u) (heo : ∃ u, h'.get? e = some u)
    (new : ObjOk X.prog X.w (upd H x o) h' x o) : Inv X pins σ (upd H x o) { s with heap := h', toks := t' } := I.un (Un.write mu he k heo) (I.hok.write mu he k heo new)
/-- forgetting slots, pins -/
theorem Inv.weak {σ' : List (Option V)} (I : Inv X pins σ H s) (hl : σ'.length = σ.length) (w : ∀ (i : Nat) v, σ'[i]? = some (some v) → σ[i]? = some (some v)) : Inv X pins σ' H s :=
  ⟨I.ok, I.os, I.bare, I.base, let ⟨m, hn, hl'⟩ := I.loc; ⟨m, hn, fun i x v e1 e2 e3 => hl' i x v e1 (w i v e2) e3⟩, I.cell, I.free, I.freeC, I.pin, I.hok, hl.trans I.len⟩
theorem Inv.pins_of {pins' : List (Addr × Obj)} (I : Inv X pins σ H s) (h : ∀ p ∈ pins', s.heap.get? p.1 = some p.2 ∧ H p.1 = none ∧ p.1 ≠ X.env.locals ∧ p.1 ∉ X.fs ∧ ∀ v, p.2.data ≠ .cell v) : Inv X pins' σ H s :=
  ⟨I.ok, I.os, I.bare, I.base, I.loc, I.cell, I.free, I.freeC, fun p hp => (List.mem_append.mp hp).elim (fun z => I.pin p (List.mem_append_left _ z)) (h p), I.hok, I.len⟩

theorem nodup_ix {N : List Str} (hN : N.Nodup) {i j : Nat} {x : Str} (a : N[i]? = some x) (b : N[j]? = some x) : i = j := by
  obtain ⟨h1, e1⟩ := List.getElem?_eq_some_iff.mp a
  obtain ⟨h2, e2⟩ := List.getElem?_eq_some_iff.mp b
  exact (List.getElem_inj hN).mp (e1.trans e2.symm)

/-- a name is stored; what changed -/
theorem store_ok2 {M : Model} {A : Around} {E : Value → Shared → Prop} {i : Nat} {x : Str} {v : V} {u : Value} {Q : Unit → Shared → Prop} (I : Inv X pins σ H s) (hN : X.N.Nodup) (hi : X.N[i]? = some x) (hx : Loc X.env.scope x) (r : RelV v u)
    (h : ∀ s', Inv X pins (σ.set i (some v)) H s' → (∃ a, Heap.SameBut a s.heap s'.heap ∧ (a = X.env.locals ∨ X.env.cells.lookup x = some a)) → Q () s') (hf : X.fn x = true ∨ X.env.scope.names.lookup x = some .local := by first | exact .inl rfl | exact .inr rfl | assumption) : wpAny M A (storeName X.env x u) Q E s := by
  obtain ⟨m, hn, hl⟩ := id I.loc
  have hcls : (X.env.scope.kind == .class || (X.env.scope.kind == .module && X.env.locals != X.env.globals)) = false := by rw [I.ok.kind]; rfl
  have hiσ : i < σ.length := by rw [I.len]; exact (List.getElem?_eq_some_iff.mp hi).1
  have cne := I.cne
  have tracked : ∀ {a : Addr} {h' : Heap}, (∃ o, s.heap.get? a = some o ∧ H a = none) → Heap.SameBut a s.heap h' → HOk X.prog X.w H h' := fun {a h'} ha hs b ob e => by
    obtain ⟨_, _, hfree⟩ := ha
    refine (I.hok b ob e).stay (fun c w' hc q => (hs.2 c ?_).trans q) (fun _ q => q) fun _ _ q => q
    rintro rfl
    rcases hc with rfl | hc
    · rw [hfree] at e; cases e
    · rw [hfree] at hc; cases hc
  rcases hx with hk | hk
  · refine wpAny_storeName_local hk hn (fun h' hn' hs => ?_) hcls
    obtain ⟨oL, _, _, hoL, _⟩ := id hn
    refine h _ ⟨I.ok, I.os, I.bare, ⟨fun b o e n hb hx => ?_, fun b o e n hb hx => ?_, I.base.free, fun b o e hx => ?_, I.base.tups, I.base.frzs, I.base.tbls⟩, ⟨_, hn', fun j y v' e1 e2 e3 => ?_⟩, fun y c e => ?_, I.free, I.freeC, fun p hp => ?_, tracked ⟨oL, hoL, I.free⟩ hs, by simpa using I.len⟩ ⟨_, hs, .inl rfl⟩
    · exact (hs.2 b (Nat.ne_of_lt (Nat.lt_of_lt_of_le (Heap.lt_size e) I.ok.above))).trans (I.base.keep b o e n hb hx)
    · obtain ⟨sl, e1⟩ := I.base.slot b o e n hb hx
      exact ⟨sl, (hs.2 b (Nat.ne_of_lt (Nat.lt_of_lt_of_le (Heap.lt_size e) I.ok.above))).trans e1⟩
    · obtain ⟨o', e1⟩ := I.base.there b o e hx
      exact ⟨o', (hs.2 b (Nat.ne_of_lt (Nat.lt_of_lt_of_le (Heap.lt_size e) I.ok.above))).trans e1⟩
    · by_cases hj : j = i
      · subst hj
        rw [hi] at e1; cases e1
        rw [List.getElem?_set_self hiσ] at e2
        cases e2
        exact ⟨u, r, .inl ⟨hk, by simp⟩⟩
      · rw [List.getElem?_set_ne (Ne.symm hj)] at e2
        obtain ⟨u', r', q⟩ := hl j y v' e1 e2 e3
        refine ⟨u', r', ?_⟩
        rcases q with ⟨k, e⟩ | ⟨k, c, e, z⟩
        · refine .inl ⟨k, ?_⟩
          have : y ≠ x := fun e => hj (nodup_ix hN e1 (e ▸ hi))
          simp [this, e]
        · exact .inr ⟨k, c, e, z.sameBut hs (cne y c e)⟩
    · obtain ⟨w', z⟩ := I.cell y c e
      exact ⟨w', z.sameBut hs (cne y c e)⟩
    · obtain ⟨e, n, ne, nf, d⟩ := I.pin p hp
      exact ⟨(hs.2 p.1 ne).trans e, n, ne, nf, d⟩
  · have hfn : X.fn x = true := by
      rcases hf with z | z
      · exact z
      · rw [z] at hk; cases hk
    obtain ⟨c, hc⟩ := I.ok.has x (.inl hk)
    obtain ⟨w', z⟩ := I.cell x c hc
    refine wpAny_storeName_cell I.ok.kind hk hc z (fun h' hc' hs => ?_)
    obtain ⟨oc, hoc, hocd⟩ := id z
    refine h { s with heap := h' } ⟨I.ok, I.os, I.bare, ⟨fun b o e n hb hx => ?_, fun b o e n hb hx => ?_, I.base.free, fun b o e hx => ?_, I.base.tups, I.base.frzs, I.base.tbls⟩, ⟨m, hn.sameBut hs (Ne.symm (cne x c hc)), fun j y v' e1 e2 e3 => ?_⟩, fun y c' e => ?_, I.free, I.freeC, fun p hp => ?_, tracked ⟨oc, hoc, I.freeC x c hc⟩ hs, by simpa using I.len⟩ ⟨c, hs, .inr hc⟩
    · exact (hs.2 b (Nat.ne_of_lt (Nat.lt_of_lt_of_le (Heap.lt_size e) (I.ok.cab x c hfn hc)))).trans (I.base.keep b o e n hb hx)
    · obtain ⟨sl, e1⟩ := I.base.slot b o e n hb hx
      exact ⟨sl, (hs.2 b (Nat.ne_of_lt (Nat.lt_of_lt_of_le (Heap.lt_size e) (I.ok.cab x c hfn hc)))).trans e1⟩
    · obtain ⟨o', e1⟩ := I.base.there b o e hx
      exact ⟨o', (hs.2 b (Nat.ne_of_lt (Nat.lt_of_lt_of_le (Heap.lt_size e) (I.ok.cab x c hfn hc)))).trans e1⟩
    · by_cases hj : j = i
      · subst hj
        rw [hi] at e1; cases e1
        rw [List.getElem?_set_self hiσ] at e2
        cases e2
        exact ⟨u, r, .inr ⟨.inl hk, c, hc, hc'⟩⟩
      · rw [List.getElem?_set_ne (Ne.symm hj)] at e2
        obtain ⟨u', r', q⟩ := hl j y v' e1 e2 e3
        refine ⟨u', r', ?_⟩
        rcases q with q | ⟨k, c', e, z'⟩
        · exact .inl q
        · refine .inr ⟨k, c', e, z'.sameBut hs ?_⟩
          rintro rfl
          exact hj (nodup_ix hN e1 (I.ok.inj _ _ _ e hc ▸ hi))
    · by_cases hcc : c' = c
      · subst hcc; exact ⟨_, hc'⟩
      · obtain ⟨w2, z2⟩ := I.cell y c' e
        exact ⟨w2, z2.sameBut hs hcc⟩
    · obtain ⟨e, n, ne, nf, d⟩ := I.pin p hp
      refine ⟨(hs.2 p.1 ?_).trans e, n, ne, nf, d⟩
      intro q
      rw [q, hoc] at e
      have q' : oc = p.2 := Option.some.inj e
      exact d w' (by rw [← q']; exact hocd)
theorem store_ok {M : Model} {A : Around} {E : Value → Shared → Prop} {i : Nat} {x : Str} {v : V} {u : Value} {Q : Unit → Shared → Prop} (I : Inv X pins σ H s) (hN : X.N.Nodup) (hi : X.N[i]? = some x) (hx : Loc X.env.scope x) (r : RelV v u)
    (h : ∀ s', Inv X pins (σ.set i (some v)) H s' → Q () s') (hf : X.fn x = true ∨ X.env.scope.names.lookup x = some .local := by first | exact .inl rfl | exact .inr rfl | assumption) : wpAny M A (storeName X.env x u) Q E s :=
  store_ok2 I hN hi hx r (fun s' I' _ => h s' I') hf
/-- behind a call or a block, the state as it is -/
theorem Inv.call' {s' : Shared} {ch : List Addr} (I : Inv X pins σ H s) (ho : s'.os = s.os) (u : Un (frs X.stack) ch H H' s.heap s'.heap) (hok : HOk X.prog X.w H' s'.heap) (hg : AllBare s'.gens)
    (hch : ∀ b ∈ ch, (b ∈ X.ex ∨ X.s₀.heap.objs.size ≤ b) ∧ b ≠ X.env.locals ∧ (∀ x c, X.env.cells.lookup x = some c → c ≠ b) ∧ ∀ p ∈ X.pn ++ pins, p.1 ≠ b) : Inv X pins σ H' s' := by
  obtain ⟨h', g', d', t', o'⟩ := s'
  have e : o' = s.os := ho
  subst e
  exact I.call (g' := g') (t' := t') (d' := d') u hok hg hch
end

/-! ### the judgements -/
/-- an exception: its class, its own dict's address (where it has one), the abstract heap behind it -/
abbrev XK := Value → Option Addr → Hp → Prop
abbrev St := List (Option V)
abbrev VK := V → Hp → Prop
/-- an expression's reading; a test's; an argument list's -/
abbrev TE := St → Hp → VK → Prop
abbrev TT := St → Hp → (Bool → Hp → Prop) → Prop
abbrev TA := St → Hp → (List V → Hp → Prop) → Prop
/-- what is wanted behind a statement -/
structure Ends where
  nx : St → Hp → Prop
  rt : VK
  bk : St → Hp → Prop := fun _ _ => False
  ct : St → Hp → Prop := fun _ _ => False
abbrev TS := Ends → St → Hp → Prop

def EP (X : Cx) (pins : List (Addr × Obj)) (σ : St) (Q : VK) (u : Value) (s' : Shared) : Prop := ∃ v H', Inv X pins σ H' s' ∧ RelV v u ∧ Q v H'
def TP (X : Cx) (pins : List (Addr × Obj)) (σ : St) (Q : Bool → Hp → Prop) (b : Bool) (s' : Shared) : Prop := ∃ H', Inv X pins σ H' s' ∧ Q b H'
def AP (X : Cx) (pins : List (Addr × Obj)) (σ : St) (Q : List V → Hp → Prop) (us : List Value) (s' : Shared) : Prop := ∃ vs H', Inv X pins σ H' s' ∧ Vals vs us ∧ Q vs H'
def SP (X : Cx) (pins : List (Addr × Obj)) (D : Ends) (f : Flow) (s' : Shared) : Prop :=
  match f with
  | .next => ∃ σ' H', Inv X pins σ' H' s' ∧ D.nx σ' H'
  | .brk => ∃ σ' H', Inv X pins σ' H' s' ∧ D.bk σ' H'
  | .cont => ∃ σ' H', Inv X pins σ' H' s' ∧ D.ct σ' H'
  | .ret u => ∃ v σ' H', Inv X pins σ' H' s' ∧ RelV v u ∧ D.rt v H'

def PE (X : Cx) (e : Expr) (t : TE) : Prop :=
  ∀ (pins : List (Addr × Obj)) (s : Shared) (σ : St) (H : Hp) (Q : VK), Inv X pins σ H s → t σ H Q → wpAny (model X.prog X.w) X.A (eval e X.env) (EP X pins σ Q) X.xe s
def PT (X : Cx) (e : Expr) (t : TT) : Prop :=
  ∀ (pins : List (Addr × Obj)) (s : Shared) (σ : St) (H : Hp) (Q : Bool → Hp → Prop), Inv X pins σ H s → t σ H Q → wpAny (model X.prog X.w) X.A (isTrue e X.env (eval e X.env)) (TP X pins σ Q) X.xe s
/-- a test whatever its 'whole' is (and, or) -/
def PW (X : Cx) (e : Expr) (t : TT) : Prop :=
  ∀ (whole : Sem Value) (pins : List (Addr × Obj)) (s : Shared) (σ : St) (H : Hp) (Q : Bool → Hp → Prop), Inv X pins σ H s → t σ H Q → wpAny (model X.prog X.w) X.A (isTrue e X.env whole) (TP X pins σ Q) X.xe s
theorem PW.pt {X : Cx} {e : Expr} {t : TT} (h : PW X e t) : PT X e t := h _
/-- an argument list (no star), from the left -/
def PA (X : Cx) (es : List Expr) (t : TA) : Prop :=
  ∀ (pos : Pos) (pins : List (Addr × Obj)) (s : Shared) (σ : St) (H : Hp) (Q : List V → Hp → Prop), Inv X pins σ H s → t σ H Q → wpAny (model X.prog X.w) X.A (spliced (backTo pos (starEach es X.env))) (AP X pins σ Q) X.xe s
def PS (X : Cx) (st : Stmt) (t : TS) : Prop :=
  ∀ (pins : List (Addr × Obj)) (s : Shared) (σ : St) (H : Hp) (D : Ends), Inv X pins σ H s → t D σ H → wpAny (model X.prog X.w) X.A (exec st X.env) (SP X pins D) X.xe s
def PSs (X : Cx) (st : List Stmt) (t : TS) : Prop :=
  ∀ (pins : List (Addr × Obj)) (s : Shared) (σ : St) (H : Hp) (D : Ends), Inv X pins σ H s → t D σ H → wpAny (model X.prog X.w) X.A (execs st X.env) (SP X pins D) X.xe s
/-- weaken the end -/
theorem thn {α : Type} {t : Sem α} {Q Q' : α → Shared → Prop} {M : Model} {A : Around} {E : Value → Shared → Prop} {s : Shared} (h : wpAny M A t Q E s) (hQ : ∀ a s, Q a s → Q' a s) : wpAny M A t Q' E s := wpAny_mono h hQ fun _ _ x => x
end L2

namespace L2
open PySem PySem.Spec PyProof.Rows
section
variable {X : Cx}

/-- two expressions in a row -/
theorem bin {a b : Expr} {ta tb : TE} (ha : PE X a ta) (hb : PE X b tb) {pins : List (Addr × Obj)} {s : Shared} {σ : St} {H : Hp} {R : V → V → Hp → Prop} (I : Inv X pins σ H s) (h : ta σ H fun x H1 => tb σ H1 fun y H2 => R x y H2)
    {α : Type} {Q : α → Shared → Prop} {f : Value → Value → Sem α}
    (hf : ∀ v u s2 x y H2, Inv X pins σ H2 s2 → RelV x v → RelV y u → R x y H2 → wpAny (model X.prog X.w) X.A (f v u) Q X.xe s2) :
    wpAny (model X.prog X.w) X.A (eval a X.env) (fun v s₁ => wpAny (model X.prog X.w) X.A (eval b X.env) (fun u s₂ => wpAny (model X.prog X.w) X.A (f v u) Q X.xe s₂) X.xe s₁) X.xe s := by
  refine thn (ha pins s σ H _ I h) fun v s1 ⟨x, H1, I1, r1, q1⟩ => ?_
  refine thn (hb pins s1 σ H1 _ I1 q1) fun u s2 ⟨y, H2, I2, r2, q2⟩ => ?_
  exact hf v u s2 x y H2 I2 r1 r2 q2

/-! ### names and constants -/
def tVar (i : Nat) : TE := fun σ H Q => ∃ v, σ[i]? = some (some v) ∧ Q v H
def tC (v : V) : TE := fun _ H Q => Q v H
theorem pe_var {i : Nat} {x : Str} {pos : Pos} (hN : X.N[i]? = some x) (hv : Vis X.env.scope x) (hd : (x == ("__debug__" : Str)) = false := by decide) (hcd : (x == ("__classdict__" : Str)) = false := by decide) : PE X (.Name x pos) (tVar i) := by
  intro pins s σ H Q I h
  obtain ⟨v, e, h⟩ := h
  obtain ⟨m, hn, hl⟩ := I.loc
  obtain ⟨u, r, l⟩ := hl i x v hN e hv
  have fin : EP X pins σ Q u s := ⟨v, H, I, r, h⟩
  rcases l with ⟨hk, hm⟩ | ⟨hk, c, hc, hcell⟩
  · exact wpAny_Name (wpAny_loadName_local I.ok.kind hk hn hm fin) hd
  · rcases hk with hk | hk
    · exact wpAny_Name (wpAny_loadName_cell I.ok.kind hk hc hcell fin) hd
    · exact wpAny_Name (wpAny_loadName_free I.ok.kind hk hc hcell fin hcd) hd
theorem pe_int {i j pos} : PE X (.Constant (.int i) j pos) (tC (.int i)) := fun _ _ _ H _ I h => wpAny_Constant_int ⟨.int i, H, I.tok _, ⟨_, rfl⟩, h⟩
theorem pe_bl {b j pos} : PE X (.Constant (.bool b) j pos) (tC (.bl b)) := fun _ _ _ H _ I h => Constant_bool ⟨.bl b, H, I, rfl, h⟩
theorem pe_non {j pos} : PE X (.Constant .none j pos) (tC .non) := fun _ _ _ H _ I h => Constant_none ⟨.non, H, I, rfl, h⟩
theorem pe_str {x j pos} : PE X (.Constant (.str x) j pos) (tC (.str x)) := fun _ _ _ H _ I h => Calls.Constant_str ⟨.str x, H, I.tok _, ⟨_, rfl⟩, h⟩

/-- a global name of the def -/
def Gl (X : Cx) (x : Str) : Prop := X.env.kindOf x = some .globalImplicit
theorem ld_glob {E : Value → Shared → Prop} {pins : List (Addr × Obj)} {s : Shared} {σ : St} {H : Hp} {x : Str} {u : Value} {pos : Pos} {Q : Value → Shared → Prop} (I : Inv X pins σ H s) (hg : Gl X x) (hm : X.mg x = some u) (h : Q u s)
    (hd : (x == ("__debug__" : Str)) = false := by decide) : wpAny (model X.prog X.w) X.A (eval (.Name x pos) X.env) Q E s :=
  Calls.Name_function_global I.ok.kind hg (Calls.loadGlobal_global (by rw [I.ok.glob]; exact I.mod.glob.keeps I.bk) hm h) hd
theorem ld_blt {E : Value → Shared → Prop} {pins : List (Addr × Obj)} {s : Shared} {σ : St} {H : Hp} {x : Str} {u : Value} {pos : Pos} {Q : Value → Shared → Prop} (I : Inv X pins σ H s) (hg : Gl X x) (hm : X.mg x = none) (hv : bootBuiltins x = some u) (h : Q u s)
    (hn : x ≠ "__name__" := by decide) (hd : (x == ("__debug__" : Str)) = false := by decide) : wpAny (model X.prog X.w) X.A (eval (.Name x pos) X.env) Q E s := by
  obtain ⟨mb, h1, h2⟩ := I.mod.blt
  exact Calls.Name_function_global I.ok.kind hg (Calls.loadGlobal_builtin (by rw [I.ok.glob]; exact I.mod.glob.keeps I.bk) hm (by rw [I.ok.blt]; exact h1.keeps I.bk) ((h2 x hn).trans hv) h) hd
/-- a module's constant, a class, a function, as a value -/
theorem pe_glob {x : Str} {v : V} {u : Value} {pos : Pos} (hg : Gl X x) (hm : X.mg x = some u) (r : RelV v u) (hd : (x == ("__debug__" : Str)) = false := by decide) : PE X (.Name x pos) (tC v) :=
  fun _ _ _ H _ I h => ld_glob I hg hm ⟨v, H, I, r, h⟩ hd
theorem pe_bltn {x : Str} {v : V} {u : Value} {pos : Pos} (hg : Gl X x) (hm : X.mg x = none) (hv : bootBuiltins x = some u) (r : RelV v u) (hn : x ≠ "__name__" := by decide) (hd : (x == ("__debug__" : Str)) = false := by decide) : PE X (.Name x pos) (tC v) :=
  fun _ _ _ H _ I h => ld_blt I hg hm hv ⟨v, H, I, r, h⟩ hn hd

/-! ### arithmetic -/
/-- two ints -/
def t2I (ta tb : TE) (k : Int → Int → Hp → Prop) : St → Hp → Prop := fun σ H => ta σ H fun x H1 => tb σ H1 fun y H2 => ∃ i j, x = .int i ∧ y = .int j ∧ k i j H2
def tAdd (ta tb : TE) : TE := fun σ H Q => t2I ta tb (fun i j H2 => Q (.int (i + j)) H2) σ H
def tSub (ta tb : TE) : TE := fun σ H Q => t2I ta tb (fun i j H2 => Q (.int (i - j)) H2) σ H
/-- the left factor below 2^64 -/
def tMul (ta tb : TE) : TE := fun σ H Q => t2I ta tb (fun i j H2 => (-(2 ^ 64) < i ∧ i < 2 ^ 64) ∧ Q (.int (i * j)) H2) σ H
variable {a b : Expr} {ta tb : TE} {pos : Pos}
/-! ### comparisons -/
def PC (X : Cx) (op : CmpOp) (a b : Expr) (t : TE) : Prop :=
  ∀ (pins : List (Addr × Obj)) (s : Shared) (σ : St) (H : Hp) (Q : VK), Inv X pins σ H s → t σ H Q →
    wpAny (model X.prog X.w) X.A (eval a X.env) (fun v s₁ => wpAny (model X.prog X.w) X.A (eval b X.env) (fun u s₂ => wpAny (model X.prog X.w) X.A (compareOp op v u) (EP X pins σ Q) X.xe s₂) X.xe s₁) X.xe s
def tCmp (p : Int → Int → Bool) (ta tb : TE) : TE := fun σ H Q => t2I ta tb (fun i j H2 => Q (.bl (p i j)) H2) σ H
abbrev tLt : TE → TE → TE := tCmp fun i j => decide (i < j)
abbrev tLe : TE → TE → TE := tCmp fun i j => decide (i ≤ j)
abbrev tGt : TE → TE → TE := tCmp fun i j => decide (j < i)
abbrev tGe : TE → TE → TE := tCmp fun i j => decide (j ≤ i)
abbrev tEqI : TE → TE → TE := tCmp fun i j => decide (i = j)
abbrev tNeI : TE → TE → TE := tCmp fun i j => !decide (i = j)
/-- is None -/
def tIsN (ta : TE) : TE := fun σ H Q => ta σ H fun x H1 => Q (.bl (decide (x = .non))) H1
def tNotN (ta : TE) : TE := fun σ H Q => ta σ H fun x H1 => Q (.bl (!decide (x = .non))) H1
/-- a comparison as a value, as a test -/
def tB (t : TE) : TT := fun σ H Q => t σ H fun x H1 => ∃ c, x = .bl c ∧ Q c H1
theorem pt_cmp {op : CmpOp} {t : TE} (h : PC X op a b t) (h1 : behindInMarks op b = false := by first | exact nobehind _ (by decide) (by decide) | rfl) : PT X (.Compare a [op] [b] pos) (tB t) := by
  intro pins s σ H Q I hw
  refine wpAny_isTrue_Compare1 (thn (h pins s σ H _ I hw) fun v s1 h1 => thn h1 fun u s2 h2 => thn h2 fun c s3 ⟨x, H1, I1, r1, q1⟩ => ?_) h1
  obtain ⟨d, rfl, q⟩ := q1
  cases r1
  exact wpAny_truthy_bool ⟨H1, I1, q⟩
/-- an expression whose value is a bool, as a test -/
theorem pt_val {e : Expr} {t : TE} (h : PE X e t) (he : ∀ whole, isTrue e X.env whole = (do let v ← whole; standAt e.pos; holding [v] (truthy v)) := by intro _; rfl) : PT X e (tB t) := by
  intro pins s σ H Q I hw
  refine isTrue_plain (thn (h pins s σ H _ I hw) fun v s1 ⟨x, H1, I1, r1, q1⟩ => ?_) (he _)
  obtain ⟨d, rfl, q⟩ := q1
  cases r1
  exact wpAny_truthy_bool ⟨H1, I1, q⟩

/-! ### and, or, not -/
variable {tA tB' : TT} {rest : List Expr}
def tAnd (t u : TT) : TT := fun σ H Q => t σ H fun c H1 => if c = true then u σ H1 Q else Q false H1
def tOr (t u : TT) : TT := fun σ H Q => t σ H fun c H1 => if c = true then Q true H1 else u σ H1 Q
def tNot (t : TT) : TT := fun σ H Q => t σ H fun c H1 => Q (!c) H1
theorem pw_and1 (ha : PT X a tA) : PW X (.BoolOp .And [a] pos) tA := by
  intro wh pins s σ H Q I h
  refine isTrue_and (thn (ha pins s σ H Q I h) fun c s1 e => ?_)
  cases c with
  | true => exact isTrue_and_nil e
  | false => exact e
theorem pw_or1 (ha : PT X a tA) : PW X (.BoolOp .Or [a] pos) tA := by
  intro wh pins s σ H Q I h
  refine isTrue_or (thn (ha pins s σ H Q I h) fun c s1 e => ?_)
  cases c with
  | false => exact isTrue_or_nil e
  | true => exact e
theorem pw_and (ha : PT X a tA) (hb : PW X (.BoolOp .And (b :: rest) pos) tB') : PW X (.BoolOp .And (a :: b :: rest) pos) (tAnd tA tB') := by
  intro wh pins s σ H Q I h
  refine isTrue_and (thn (ha pins s σ H _ I h) fun c s1 ⟨H1, I1, q1⟩ => ?_)
  cases c with
  | true => exact hb wh pins s1 σ H1 Q I1 q1
  | false => exact ⟨H1, I1, q1⟩
theorem pw_or (ha : PT X a tA) (hb : PW X (.BoolOp .Or (b :: rest) pos) tB') : PW X (.BoolOp .Or (a :: b :: rest) pos) (tOr tA tB') := by
  intro wh pins s σ H Q I h
  refine isTrue_or (thn (ha pins s σ H _ I h) fun c s1 ⟨H1, I1, q1⟩ => ?_)
  cases c with
  | true => exact ⟨H1, I1, q1⟩
  | false => exact hb wh pins s1 σ H1 Q I1 q1
theorem pt_not (ha : PT X a tA) : PT X (.UnaryOp .Not a pos) (tNot tA) := by
  intro pins s σ H Q I h
  exact isTrue_not (ha pins s σ H (fun c H1 => Q (!c) H1) I h)
/-- .. as values (bools) -/
def tAndV (ta tb : TE) : TE := fun σ H Q => ta σ H fun x H1 => ∃ c, x = .bl c ∧ if c = true then tb σ H1 Q else Q (.bl false) H1
def tOrV (ta tb : TE) : TE := fun σ H Q => ta σ H fun x H1 => ∃ c, x = .bl c ∧ if c = true then Q (.bl true) H1 else tb σ H1 Q
def tNotV (ta : TE) : TE := fun σ H Q => ta σ H fun x H1 => ∃ c, x = .bl c ∧ Q (.bl (!c)) H1
theorem pe_one {op} {t : TE} (h : PE X a t) : PE X (.BoolOp op [a] pos) t := fun pins s σ H Q I hw => BoolOp_one (h pins s σ H Q I hw)
theorem pe_and (ha : PE X a ta) (hb : PE X (.BoolOp .And (b :: rest) pos) tb) : PE X (.BoolOp .And (a :: b :: rest) pos) (tAndV ta tb) := by
  intro pins s σ H Q I h
  refine BoolOp_and (thn (ha pins s σ H _ I h) fun v s1 ⟨x, H1, I1, r1, q1⟩ => ?_)
  obtain ⟨c, rfl, q1⟩ := q1
  cases r1
  refine wpAny_truthy_bool ?_
  cases c with
  | true => exact hb pins s1 σ H1 Q I1 q1
  | false => exact ⟨.bl false, H1, I1, rfl, q1⟩
theorem pe_or (ha : PE X a ta) (hb : PE X (.BoolOp .Or (b :: rest) pos) tb) : PE X (.BoolOp .Or (a :: b :: rest) pos) (tOrV ta tb) := by
  intro pins s σ H Q I h
  refine BoolOp_or (thn (ha pins s σ H _ I h) fun v s1 ⟨x, H1, I1, r1, q1⟩ => ?_)
  obtain ⟨c, rfl, q1⟩ := q1
  cases r1
  refine wpAny_truthy_bool ?_
  cases c with
  | false => exact hb pins s1 σ H1 Q I1 q1
  | true => exact ⟨.bl true, H1, I1, rfl, q1⟩
theorem pe_not (ha : PE X a ta) : PE X (.UnaryOp .Not a pos) (tNotV ta) := by
  intro pins s σ H Q I h
  refine UnaryOp_ (thn (ha pins s σ H _ I h) fun v s1 ⟨x, H1, I1, r1, q1⟩ => ?_)
  obtain ⟨c, rfl, q1⟩ := q1
  cases r1
  exact not_of (wpAny_truthy_bool ⟨.bl (!c), H1, I1, rfl, q1⟩)
/-- a if t else b -/
def tIf (t : TT) (ta tb : TE) : TE := fun σ H Q => t σ H fun c H1 => if c = true then ta σ H1 Q else tb σ H1 Q
end
end L2

namespace L2
open PySem PySem.Spec PyProof.Rows

/-! ### a list, a tuple that is read: tracked, frozen, or an object of the module -/
def SqL (K : PySem.W.Frag) (H : Hp) (a : Addr) (xs : List V) : Prop :=
  Rd H a (.lst xs) ∨
    ∃ (o : Obj) (its : Array Value) (n : Nat), K.lookup a = some o ∧ o.cls = .type "list" ∧ o.dict = none ∧ o.data = .seq its n ∧ its.size ≤ sizeLine ∧ Vals xs its.toList
def SqT (K : PySem.W.Frag) (H : Hp) (a : Addr) (xs : List V) : Prop :=
  Rd H a (.tup xs) ∨
    ∃ (o : Obj) (its : Array Value) (n : Nat), K.lookup a = some o ∧ o.cls = .type "tuple" ∧ o.data = .seq its n ∧ its.size ≤ sizeLine ∧ Vals xs its.toList
def absV : Value → Option V
  | .none => some .non
  | .bool b => some (.bl b)
  | .int i _ => some (.int i)
  | .str x _ => some (.str x)
  | .bytes b _ => some (.byt b)
  | .float b _ => some (.flt b)
  | .ref a => some (.ref a)
  | .type n => some (.ty n)
  | _ => none
theorem RelV.abs {x : V} {u : Value} (r : RelV x u) : absV u = some x := by
  cases x with
  | non => cases r; rfl
  | bl _ => cases r; rfl
  | int _ => obtain ⟨t, rfl⟩ := r; rfl
  | str _ => obtain ⟨t, rfl⟩ := r; rfl
  | byt _ => obtain ⟨t, rfl⟩ := r; rfl
  | flt _ => obtain ⟨t, rfl⟩ := r; rfl
  | ref _ => cases r; rfl
  | ty _ => cases r; rfl
theorem RelV.inj {x y : V} {u : Value} (r : RelV x u) (q : RelV y u) : x = y := Option.some.inj (r.abs.symm.trans q.abs)
theorem Vals.inj : ∀ {xs ys : List V} {us : List Value}, Vals xs us → Vals ys us → xs = ys
  | _, _, _, .nil, .nil => rfl
  | _, _, _, .cons r t, .cons r' t' => by rw [r.inj r', Vals.inj t t']
section
variable {X : Cx} {pins : List (Addr × Obj)} {σ : St} {H : Hp} {s : Shared} {a : Addr} {xs ys : List V}
theorem SqL.of {K : PySem.W.Frag} (h : H a = some (.lst xs)) : SqL K H a xs := .inl (.inl h)
theorem SqT.of {K : PySem.W.Frag} (h : H a = some (.tup xs)) : SqT K H a xs := .inl (.inl h)
theorem Inv.list (I : Inv X pins σ H s) (h : SqL X.K H a xs) : ∃ its : List Value, Vals xs its ∧ PlainL s.heap a its.toArray ∧ xs.length ≤ sizeLine := by
  rcases h with h | ⟨o, its, n, hk, hc, hd, hs, hz, r⟩
  · obtain ⟨z, its, n, r, e⟩ := h.ok I.hok
    exact ⟨its, r, ⟨_, n, e, rfl, rfl, rfl⟩, z⟩
  · refine ⟨its.toList, r, ⟨o, n, I.kIn a o hk, hc, hd, by simpa using hs⟩, ?_⟩
    have e := r.length
    simp only [Array.length_toList] at e
    omega
theorem Inv.tuple (I : Inv X pins σ H s) (h : SqT X.K H a xs) : ∃ its : List Value, Vals xs its ∧ IsTup s.heap a its.toArray ∧ xs.length ≤ sizeLine := by
  rcases h with h | ⟨o, its, n, hk, hc, hs, hz, r⟩
  · obtain ⟨z, its, r, p⟩ := h.ok I.hok
    exact ⟨its, r, p, z.1⟩
  · refine ⟨its.toList, r, ⟨o, I.kIn a o hk, hc, n, by simpa using hs⟩, ?_⟩
    have e := r.length
    simp only [Array.length_toList] at e
    omega
theorem Inv.list_inj (I : Inv X pins σ H s) (h : SqL X.K H a xs) (h' : SqL X.K H a ys) : xs = ys := by
  obtain ⟨its, r, ⟨o, n, e, _, _, d⟩, _⟩ := I.list h
  obtain ⟨its', r', ⟨o', n', e', _, _, d'⟩, _⟩ := I.list h'
  rw [e] at e'; cases e'
  rw [d] at d'
  injection d' with d1 _
  have : its = its' := by simpa using congrArg Array.toList d1
  subst this
  exact r.inj r'
end

/-! ### another wish about exceptions -/
abbrev Cx.wish (X : Cx) (E : Value → Shared → Prop) : Cx := { X with xe := E }
/-- no exception leaves -/
abbrev Cx.nox (X : Cx) : Cx := X.wish fun _ _ => False
theorem Cx.Ok.wish {X : Cx} (ok : X.Ok) (E : Value → Shared → Prop) : (X.wish E).Ok :=
  ⟨ok.mod, ok.kind, ok.glob, ok.blt, ok.above, ok.inj, ok.has, ok.cab, ok.hd, ok.frames, ok.stk, ok.exf, ok.bs, ok.bsz, ok.noex, ok.exfs, ok.funs, ok.frf⟩
theorem Cx.Ok.unwish {X : Cx} {E : Value → Shared → Prop} (ok : (X.wish E).Ok) : X.Ok :=
  ⟨ok.mod, ok.kind, ok.glob, ok.blt, ok.above, ok.inj, ok.has, ok.cab, ok.hd, ok.frames, ok.stk, ok.exf, ok.bs, ok.bsz, ok.noex, ok.exfs, ok.funs, ok.frf⟩
section
variable {X : Cx} {pins : List (Addr × Obj)} {σ : St} {H : Hp} {s : Shared} {E : Value → Shared → Prop}
theorem Inv.wish (I : Inv X pins σ H s) (E : Value → Shared → Prop) : Inv (X.wish E) pins σ H s := ⟨I.ok.wish E, I.os, I.bare, I.base, I.loc, I.cell, I.free, I.freeC, I.pin, I.hok, I.len⟩
theorem Inv.unwish (I : Inv (X.wish E) pins σ H s) : Inv X pins σ H s := ⟨I.ok.unwish, I.os, I.bare, I.base, I.loc, I.cell, I.free, I.freeC, I.pin, I.hok, I.len⟩
theorem SP.unwish {D : Ends} {f : Flow} {s' : Shared} (h : SP (X.wish E) pins D f s') : SP X pins D f s' := by
  cases f with
  | next => obtain ⟨σ', H', I, q⟩ := h; exact ⟨σ', H', I.unwish, q⟩
  | brk => obtain ⟨σ', H', I, q⟩ := h; exact ⟨σ', H', I.unwish, q⟩
  | cont => obtain ⟨σ', H', I, q⟩ := h; exact ⟨σ', H', I.unwish, q⟩
  | ret u => obtain ⟨v, σ', H', I, r, q⟩ := h; exact ⟨v, σ', H', I.unwish, r, q⟩
theorem PSs.nox {st : List Stmt} {t : TS} (h : PSs X.nox st t) : PSs X st t := fun pins s σ H D I hw =>
  wpAny_mono (h pins s σ H D (I.wish _) hw) (fun _ _ q => q.unwish) fun _ _ z => False.elim z
end

/-! ### blocks and small statements -/
section
variable {X : Cx} {st : Stmt} {rest : List Stmt} {t u : TS} {e : Expr} {te : TE} {pos : Pos}
def tNext : TS := fun D σ H => D.nx σ H
def tSeq (t u : TS) : TS := fun D σ H => t { D with nx := u D } σ H
theorem pss_nil : PSs X [] tNext := fun _ _ σ H _ I h => wpAny_execs_nil ⟨σ, H, I, h⟩
theorem pss_cons (h1 : PS X st t) (h2 : PSs X rest u) : PSs X (st :: rest) (tSeq t u) := by
  intro pins s σ H D I h
  refine wpAny_execs_cons (thn (h1 pins s σ H { D with nx := u D } I h) fun f s1 q => ?_)
  cases f with
  | next =>
    obtain ⟨σ', H', I', q⟩ := q
    exact h2 pins s1 σ' H' D I' q
  | ret v => exact q
  | brk => exact q
  | cont => exact q
theorem pss_one (h1 : PS X st t) : PSs X [st] t := by
  intro pins s σ H D I h
  refine wpAny_execs_cons (thn (h1 pins s σ H D I h) fun f s1 q => ?_)
  cases f with
  | next => exact wpAny_execs_nil q
  | ret v => exact q
  | brk => exact q
  | cont => exact q
def tBreak : TS := fun D σ H => D.bk σ H
def tCont : TS := fun D σ H => D.ct σ H
/-- in a def's body nothing is shown -/
theorem Inv.quiet {pins : List (Addr × Obj)} {σ : St} {H : Hp} {s : Shared} (I : Inv X pins σ H s) : interactive X.env = false := by simp [interactive, I.ok.kind]
/-- an expression whose value is dropped -/
def tDrop (te : TE) : TS := fun D σ H => te σ H fun _ H1 => D.nx σ H1
theorem ps_expr (he : PE X e te) (hs : swapsWith e none pos.line X.env = pure false := by rfl) : PS X (.Expr e pos) (tDrop te) := by
  intro pins s σ H D I h
  exact wpAny_Expr_any (thn (he pins s σ H _ I h) fun v s1 ⟨x, H1, I1, r1, q1⟩ => ⟨σ, H1, I1, q1⟩) I.quiet hs
def tRet (te : TE) : TS := fun D σ H => te σ H D.rt
theorem ps_ret (he : PE X e te) : PS X (.Return (some e) pos) (tRet te) := by
  intro pins s σ H D I h
  exact wpAny_Return_some (thn (he pins s σ H _ I h) fun v s1 ⟨x, H1, I1, r1, q1⟩ => ⟨x, σ, H1, I1, r1, q1⟩)
def tRetN : TS := fun D _ H => D.rt .non H
def tIfS (c : TT) (t u : TS) : TS := fun D σ H => c σ H fun b H1 => if b = true then t D σ H1 else u D σ H1
theorem ps_if {c : Expr} {a b : List Stmt} {tc : TT} (hc : PT X c tc) (ha : PSs X a t) (hb : PSs X b u) : PS X (.If c a b pos) (tIfS tc t u) := by
  intro pins s σ H D I h
  refine wpAny_If (thn (hc pins s σ H _ I h) fun d s1 ⟨H1, I1, q1⟩ => ?_)
  cases d with
  | true => exact ha pins s1 σ H1 D I1 q1
  | false => exact hb pins s1 σ H1 D I1 q1
/-- code that the proof never comes to -/
def tNever : TS := fun _ _ _ => False
end

/-! ### targets -/
abbrev TG := V → St → Hp → (St → Hp → Prop) → Prop
abbrev TGs := List V → St → Hp → (St → Hp → Prop) → Prop
def PG (X : Cx) (target : Expr) (t : TG) : Prop :=
  ∀ (pins : List (Addr × Obj)) (s : Shared) (σ : St) (H : Hp) (v : V) (u : Value) (Q : St → Hp → Prop), Inv X pins σ H s → RelV v u → t v σ H Q →
    wpAny (model X.prog X.w) X.A (assign target X.env u) (fun _ s' => ∃ σ' H', Inv X pins σ' H' s' ∧ Q σ' H') X.xe s
/-- several targets, one after another -/
def PGs (X : Cx) (ts : List Expr) (t : TGs) : Prop :=
  ∀ (pins : List (Addr × Obj)) (s : Shared) (σ : St) (H : Hp) (vs : List V) (us : List Value) (Q : St → Hp → Prop), Inv X pins σ H s → Vals vs us → t vs σ H Q →
    wpAny (model X.prog X.w) X.A (assignInOrder ((assignEach ts X.env).map (·.2)) us) (fun _ s' => ∃ σ' H', Inv X pins σ' H' s' ∧ Q σ' H') X.xe s
/-- o[i] = v, by values -/
abbrev TSet := V → V → V → Hp → (Hp → Prop) → Prop
def PSet (X : Cx) (t : TSet) : Prop :=
  ∀ (pins : List (Addr × Obj)) (s : Shared) (σ : St) (H : Hp) (o i v : V) (ov iv u : Value) (Q : Hp → Prop), Inv X pins σ H s → RelV o ov → RelV i iv → RelV v u → t o i v H Q →
    wpAny (model X.prog X.w) X.A (setItem ov iv u) (fun _ s' => ∃ H', Inv X pins σ H' s' ∧ Q H') X.xe s
/-- a op= b, by values -/
abbrev TIp := V → V → Hp → VK → Prop
def PIp (X : Cx) (op : Operator) (t : TIp) : Prop :=
  ∀ (pins : List (Addr × Obj)) (s : Shared) (σ : St) (H : Hp) (x y : V) (v u : Value) (Q : VK), Inv X pins σ H s → RelV x v → RelV y u → t x y H Q →
    wpAny (model X.prog X.w) X.A (inplaceOp op v u) (EP X pins σ Q) X.xe s
section
variable {X : Cx} {pos : Pos}
def gName (i : Nat) : TG := fun v σ H Q => Q (σ.set i (some v)) H
theorem pg_name {i : Nat} {x : Str} (hN : X.N.Nodup) (hi : X.N[i]? = some x) (hx : Loc X.env.scope x) (hf : X.fn x = true ∨ X.env.scope.names.lookup x = some .local := by first | exact .inl rfl | exact .inr rfl | assumption) : PG X (.Name x pos) (gName i) := by
  intro pins s σ H v u Q I r h
  exact wpAny_assign_Name (store_ok I hN hi hx r (fun s' I' => ⟨_, H, I', h⟩) hf)
def gNil : TGs := fun vs σ H Q => vs = [] ∧ Q σ H
def gCons (t : TG) (u : TGs) : TGs := fun vs σ H Q => ∃ v r, vs = v :: r ∧ t v σ H fun σ' H' => u r σ' H' Q
theorem pgs_nil : PGs X [] gNil := by
  intro pins s σ H vs us Q I r h
  obtain ⟨e, h⟩ := h
  subst e
  cases r
  exact assignInOrder_nil ⟨σ, H, I, h⟩
theorem pgs_cons {e : Expr} {es : List Expr} {t : TG} {u : TGs} (h1 : PG X e t) (h2 : PGs X es u)
    (hs : (assignEach (e :: es) X.env).map (·.2) = assign e X.env :: (assignEach es X.env).map (·.2) := by rfl) : PGs X (e :: es) (gCons t u) := by
  intro pins s σ H vs us Q I r h
  obtain ⟨v, vr, e1, h⟩ := h
  subst e1
  cases r with
  | cons r rr =>
    rw [hs]
    refine assignInOrder_cons (thn (h1 pins s σ H _ _ _ I r h) fun _ s1 ⟨σ1, H1, I1, q1⟩ => ?_)
    exact h2 pins s1 σ1 H1 _ _ Q I1 rr q1
/-- (a, b, ..) = a tuple of that length -/
def gTup (K : PySem.W.Frag) (n : Nat) (t : TGs) : TG := fun v σ H Q => ∃ a xs, v = .ref a ∧ SqT K H a xs ∧ xs.length = n ∧ t xs σ H Q
theorem pg_tup {es : List Expr} {k : Nat} {t : TGs} {n : Nat} (hc : X.calm = true) (h : PGs X es t)
    (hn : (assignEach es X.env).length = n := by rfl) (hst : (assignEach es X.env).findIdx? (·.1) = none := by rfl) : PG X (.Tuple es k pos) (gTup X.K n t) := by
  intro pins s σ H v u Q I r hw
  obtain ⟨a, xs, e1, hq, hl, hw⟩ := hw
  subst e1
  cases r
  obtain ⟨its, rv, ht, hz⟩ := I.tuple hq
  refine assign_Tuple_tuple (I.ok.hd hc) ht (by simp [hn, ← hl, rv.length]) hst fun h' hx => ?_
  have I1 : Inv X pins σ H { s with heap := h' } := I.kept (t' := s.toks) fun b o e => hx b o (Nat.ne_of_lt (Heap.lt_size e)) e
  exact h pins _ σ H xs _ Q I1 (by simpa using rv) hw
/-- o[i] = .. -/
def gSub (to ti : TE) (t : TSet) : TG := fun v σ H Q => to σ H fun o H1 => ti σ H1 fun i H2 => t o i v H2 fun H3 => Q σ H3
/-- target = value -/
def tAsg (te : TE) (g : TG) : TS := fun D σ H => te σ H fun x H1 => g x σ H1 D.nx
theorem ps_asg {tg e : Expr} {te : TE} {g : TG} (he : PE X e te) (hg : PG X tg g) (hs : swapsWithSole [tg] e pos.line X.env = pure false := by rfl) (hw : swappedStores [tg] e X.env = pure none := by rfl)
    (h1 : (assignEach [tg] X.env).map (·.2) = [assign tg X.env] := by rfl) : PS X (.Assign [tg] e pos) (tAsg te g) := by
  intro pins s σ H D I h
  refine wpAny_Assign_stores (thn (he pins s σ H _ I h) fun v s1 ⟨x, H1, I1, r1, q1⟩ => ?_) hs hw
  rw [h1]
  exact thn (hg pins s1 σ H1 x v _ I1 r1 q1) fun _ s2 q => q
/-- name = value -/
theorem ps_set {i : Nat} {x : Str} {e : Expr} {te : TE} {pos' : Pos} (hN : X.N.Nodup) (hi : X.N[i]? = some x) (hx : Loc X.env.scope x) (he : PE X e te) (hs : swapsWith e (some (.Name x pos')) pos.line X.env = pure false := by rfl) (hf : X.fn x = true ∨ X.env.scope.names.lookup x = some .local := by first | exact .inl rfl | exact .inr rfl | assumption) :
    PS X (.Assign [.Name x pos'] e pos) (tAsg te (gName i)) := by
  intro pins s σ H D I h
  refine wpAny_Assign_Name (thn (he pins s σ H _ I h) fun v s1 ⟨y, H1, I1, r1, q1⟩ => ?_) hs
  exact store_ok I1 hN hi hx r1 (fun s2 I2 => ⟨_, H1, I2, q1⟩) hf
/-- a, b = x, y with plain local names: stored from the right; the pair itself is not tracked (the opening rows as in PyProof/Rows/TupAssign.lean:23) -/
def tPar (i j : Nat) (ta : TA) : TS := fun D σ H => ta σ H fun vs H1 => ∃ v w, vs = [v, w] ∧ D.nx ((σ.set i (some v)).set j (some w)) H1
/-- name op= e -/
def tAug (i : Nat) (te : TE) (ti : TIp) : TS := fun D σ H => ∃ x, σ[i]? = some (some x) ∧ te σ H fun y H1 => ti x y H1 fun z H2 => D.nx (σ.set i (some z)) H2
theorem ps_aug {i : Nat} {x : Str} {e : Expr} {te : TE} {op : Operator} {ti : TIp} {pos' : Pos} (hN : X.N.Nodup) (hi : X.N[i]? = some x) (hx : Loc X.env.scope x) (he : PE X e te) (ho : PIp X op ti) (hf : X.fn x = true ∨ X.env.scope.names.lookup x = some .local := by first | exact .inl rfl | exact .inr rfl | assumption) :
    PS X (.AugAssign (.Name x pos') op e pos) (tAug i te ti) := by
  intro pins s σ H D I h
  obtain ⟨v, e1, h⟩ := h
  obtain ⟨m, hn, hl⟩ := I.loc
  have vis : Vis X.env.scope x := by rcases hx with k | k; exact .inl k; exact .inr (.inl k)
  obtain ⟨u, r, l⟩ := hl i x v hi e1 vis
  refine wpAny_AugAssign_Name ?_
  have go : wpAny (model X.prog X.w) X.A (eval e X.env) (fun w s₂ => wpAny (model X.prog X.w) X.A (inplaceOp op u w) (fun r s₃ => wpAny (model X.prog X.w) X.A (storeName X.env x r) (fun _ => SP X pins D .next) X.xe s₃) X.xe s₂) X.xe s := by
    refine thn (he pins s σ H _ I h) fun w s1 ⟨y, H1, I1, r1, q1⟩ => ?_
    refine thn (ho pins s1 σ H1 v y u w _ I1 r r1 q1) fun z s2 ⟨zv, H2, I2, r2, q2⟩ => ?_
    exact store_ok I2 hN hi hx r2 (fun s3 I3 => ⟨_, H2, I3, q2⟩) hf
  rcases l with ⟨hk, hm⟩ | ⟨hk, c, hc, hcell⟩
  · exact wpAny_loadName_local I.ok.kind hk hn hm go
  · rcases hk with hk | hk
    · exact wpAny_loadName_cell I.ok.kind hk hc hcell go
    · rcases hx with k | k
      · have : X.env.scope.names.lookup x = some .free := hk
        rw [k] at this; cases this
      · have : X.env.scope.names.lookup x = some .free := hk
        rw [k] at this; cases this
/-- o[i] op= e -/
def tAugS (to ti te : TE) (tget : V → V → Hp → VK → Prop) (tip : TIp) (tset : TSet) : TS := fun D σ H => to σ H fun o H1 => ti σ H1 fun i H2 => tget o i H2 fun x H3 => te σ H3 fun y H4 => tip x y H4 fun z H5 => tset o i z H5 fun H6 => D.nx σ H6
/-- o[i], by values -/
def PGet (X : Cx) (t : V → V → Hp → VK → Prop) : Prop :=
  ∀ (pins : List (Addr × Obj)) (s : Shared) (σ : St) (H : Hp) (o i : V) (ov iv : Value) (Q : VK), Inv X pins σ H s → RelV o ov → RelV i iv → t o i H Q →
    wpAny (model X.prog X.w) X.A (getItem ov iv) (EP X pins σ Q) X.xe s
/-- ints -/
def ipI (f : Int → Int → Int) : TIp := fun x y H Q => ∃ i j, x = .int i ∧ y = .int j ∧ Q (.int (f i j)) H
theorem ip_add : PIp X .Add (ipI fun i j => i + j) := by
  intro pins s σ H x y v u Q I r1 r2 h
  obtain ⟨i, j, e1, e2, q⟩ := h
  subst e1; subst e2
  obtain ⟨t, rfl⟩ := r1
  obtain ⟨t', rfl⟩ := r2
  exact iadd_int ⟨.int _, H, I.tok _, ⟨_, rfl⟩, q⟩
end

/-! ### while -/
section
variable {X : Cx} {pos : Pos}
/-- the invariant W with its measure -/
def tWhile (c : TT) (tb : TS) : TS := fun D σ H => ∃ W : Nat → St → Hp → Prop, (∃ m, W m σ H) ∧ ∀ m σ H, W m σ H →
  c σ H fun b H1 => if b = true then ∃ N : St → Hp → Prop, (∀ σ' H', N σ' H' → ∃ m', m' < m ∧ W m' σ' H') ∧ tb { D with nx := N, ct := N, bk := D.nx } σ H1 else D.nx σ H1
theorem ps_while {c : Expr} {body : List Stmt} {tc : TT} {tb : TS} (hp : PassesOwn (model X.prog X.w) X.A X.env X.xe) (hc : PT X c tc) (hb : PSs X body tb) : PS X (.While c body [] pos) (tWhile tc tb) := by
  intro pins s σ H D I h
  obtain ⟨W, ⟨m0, w0⟩, turn⟩ := h
  refine wpAny_While (codeAny_whileLoop (fun n s' => ∃ σ' H', Inv X pins σ' H' s' ∧ W n σ' H') ?_ m0 ⟨σ, H, I, w0⟩)
  rintro n s1 ⟨σ1, H1, I1, w1⟩
  refine wpAny_passesOwn hp (thn (hc pins s1 σ1 H1 _ I1 (turn n σ1 H1 w1)) fun b s2 ⟨H2, I2, q2⟩ => ?_)
  cases b with
  | true =>
    obtain ⟨N, hN, q2⟩ := q2
    rw [if_pos rfl]
    refine wpAny_passesOwn hp (thn (hb pins s2 σ1 H2 _ I2 q2) fun f s3 q3 => ?_)
    cases f with
    | next =>
      obtain ⟨σ3, H3, I3, n3⟩ := q3
      obtain ⟨m', hm, w3⟩ := hN σ3 H3 n3
      exact ⟨m', hm, σ3, H3, I3, w3⟩
    | cont =>
      obtain ⟨σ3, H3, I3, n3⟩ := q3
      obtain ⟨m', hm, w3⟩ := hN σ3 H3 n3
      exact ⟨m', hm, σ3, H3, I3, w3⟩
    | brk => exact q3
    | ret v => exact q3
  | false =>
    rw [if_neg Bool.false_ne_true]
    exact wpAny_execs_nil ⟨σ1, H2, I2, q2⟩
end

/-! ### what a loop or a comprehension walks -/
/-- at turn i: it yields x (the heap may grow), or it stops -/
structure It where
  go : Nat → Hp → Prop
  yld : Nat → Hp → V → Hp → Prop
  stop : Nat → Hp → Prop
/-- the iterator's own objects may turn: they are not the frame's, not pinned, younger than the entry (or a comprehension's own) -/
def FpOk (X : Cx) (pins : List (Addr × Obj)) (H : Hp) (b : Addr) : Prop :=
  H b = none ∧ b ≠ X.env.locals ∧ b ∉ X.fs ∧ (b ∈ X.ex ∨ X.s₀.heap.objs.size ≤ b) ∧ (∀ x c, X.env.cells.lookup x = some c → c ≠ b) ∧ ∀ p ∈ X.pn ++ pins, p.1 ≠ b
theorem Inv.fpOk {X : Cx} {pins : List (Addr × Obj)} {σ : St} {H H' : Hp} {s : Shared} {b : Addr} (I : Inv X pins σ H s) (hb : s.heap.objs.size ≤ b) (hn : H' b = none) : FpOk X pins H' b := by
  refine ⟨hn, Nat.ne_of_gt (Nat.lt_of_lt_of_le I.lt hb), I.nofs hb, .inr (Nat.le_trans I.sz hb), fun x c e z => ?_, fun p hp z => ?_⟩
  · obtain ⟨v, q⟩ := I.cell x c e
    exact absurd (Nat.lt_of_lt_of_le q.lt (by rw [z]; exact hb)) (Nat.lt_irrefl _)
  · exact absurd (Nat.lt_of_lt_of_le (Heap.lt_size (I.pin p hp).1) (by rw [z]; exact hb)) (Nat.lt_irrefl _)
structure Turn (P : Program) (w : World) (K : PySem.W.Frag) (tg : Expr) (J : It) (fp : List Addr) (it : Addr) (tn : Nat → Heap → Prop) : Prop where
  mem : it ∈ fp
  obj : ∀ i h, tn i h → ∀ b ∈ fp, ∃ o, h.get? b = some o ∧ ∀ v, o.data ≠ .cell v
  keep : ∀ i h h', tn i h → (∀ b ∈ fp, ∀ o, h.get? b = some o → h'.get? b = some o) → tn i h'
  item : ∀ (X : Cx), X.prog = P → X.w = w → X.K = K → X.calm = true → ∀ (i : Nat) (pins : List (Addr × Obj)) (s : Shared) (σ : St) (H : Hp) (E : Value → Shared → Prop), Inv X pins σ H s → (∀ b ∈ fp, FpOk X pins H b) → tn i s.heap → J.go i H →
    wpAny (model P w) X.A (pyNext (.ref it)) (fun r s1 => ∃ u, r = some u ∧
      wpAny (model P w) X.A (letOwnedTupleGo tg (.ref it) u) (fun _ s2 => ∃ x H', Inv X pins σ H' s2 ∧ RelV x u ∧ J.yld i H x H' ∧ tn (i + 1) s2.heap ∧ ∀ b ∈ fp, H' b = none) E s1) E s
  done : ∀ (X : Cx), X.prog = P → X.w = w → X.K = K → X.calm = true → ∀ (i : Nat) (pins : List (Addr × Obj)) (s : Shared) (σ : St) (H : Hp) (E : Value → Shared → Prop), Inv X pins σ H s → (∀ b ∈ fp, FpOk X pins H b) → tn i s.heap → J.stop i H →
    wpAny (model P w) X.A (pyNext (.ref it)) (fun r s1 => r = none ∧ Inv X pins σ H s1) E s
  self : ∀ (A : Around) (i : Nat) (s : Shared) (Q : Value → Shared → Prop) (E : Value → Shared → Prop), tn i s.heap → Q (.ref it) s → wpAny (model P w) A (pyIter (.ref it)) Q E s
abbrev TI := St → Hp → (It → Hp → Prop) → Prop
/-- an iterator has come -/
def PIE (X : Cx) (pins : List (Addr × Obj)) (σ : St) (tg : Expr) (R : It → Hp → Prop) (itv : Value) (s2 : Shared) : Prop :=
  ∃ (it : Addr) (fp : List Addr) (tn : Nat → Heap → Prop) (J : It) (H' : Hp), itv = .ref it ∧ Inv X pins σ H' s2 ∧ Turn X.prog X.w X.K tg J fp it tn ∧ tn 0 s2.heap ∧ (∀ b ∈ fp, FpOk X pins H' b) ∧ R J H'
def PI (X : Cx) (tg iter : Expr) (wi : TI) : Prop :=
  ∀ (pins : List (Addr × Obj)) (s : Shared) (σ : St) (H : Hp) (R : It → Hp → Prop), Inv X pins σ H s → wi σ H R →
    wpAny (model X.prog X.w) X.A (eval iter X.env) (fun v s1 => wpAny (model X.prog X.w) X.A (pyIter v) (PIE X pins σ tg R) X.xe s1) X.xe s

/-- the step ahead of the store is nothing for an iterator that keeps no tuple -/
theorem go_of {M : Model} {A : Around} {E : Value → Shared → Prop} {s : Shared} {tg : Expr} {it : Addr} {u : Value} {o : Obj} {n : String} {vs : Array Value} {Q : Unit → Shared → Prop} (ho : s.heap.get? it = some o) (hc : o.cls = .type n) (hd : o.data = .fields vs)
    (hn : ["enumerate", "zip", "dict_itemiterator", "dict_reverseitemiterator", "odict_iterator", "itertools.zip_longest", "itertools.pairwise"].contains n = false) (hQ : Q () s) : wpAny M A (letOwnedTupleGo tg (.ref it) u) Q E s := by
  unfold letOwnedTupleGo
  cases tg <;> first
    | exact wpAny_pure hQ
    | (cases u <;> first
        | exact wpAny_pure hQ
        | (refine wpAny_bind (wpAny_load ho ?_)
           rw [hc, hd]
           show wpAny M A (if (["enumerate", "zip", "dict_itemiterator", "dict_reverseitemiterator", "odict_iterator", "itertools.zip_longest", "itertools.pairwise"].contains n && vs[0]? == some (rawInt _)) = true then _ else _) Q E s
           rw [if_neg (by intro h; rw [hn, Bool.false_and] at h; cases h)]
           exact wpAny_pure hQ))

/-- the list at a, as it stands at each turn (a loop may append to it) -/
def Itl (K : PySem.W.Frag) (a : Addr) : It :=
  ⟨fun i H => ∃ xs x, SqL K H a xs ∧ xs[i]? = some x, fun i H x H' => H' = H ∧ ∀ xs, SqL K H a xs → xs[i]? = some x, fun i H => ∃ xs, SqL K H a xs ∧ xs.length ≤ i⟩
def Itt (K : PySem.W.Frag) (a : Addr) : It :=
  ⟨fun i H => ∃ xs x, SqT K H a xs ∧ xs[i]? = some x, fun i H x H' => H' = H ∧ ∀ xs, SqT K H a xs → xs[i]? = some x, fun i H => ∃ xs, SqT K H a xs ∧ xs.length ≤ i⟩
/-- lo, lo + 1, .. (n of them) -/
def Itr (lo : Int) (n : Nat) : It := ⟨fun i _ => i < n, fun i H x H' => H' = H ∧ x = .int (lo + i), fun i _ => n ≤ i⟩
theorem turn_list {P : Program} {w : World} {K : PySem.W.Frag} {tg : Expr} (a it : Addr) : Turn P w K tg (Itl K a) [it] it (fun i h => h.IsListIter it a i) where
  mem := by simp
  obj := fun i h st b hb => by
    have e : b = it := by simpa using hb
    subst e
    obtain ⟨o, e, c, d⟩ := st
    exact ⟨o, e, fun v z => by rw [d] at z; cases z⟩
  keep := fun i h h' st k => st.at fun o e => k it (by simp) o e
  item := by
    intro X hP hw hK hc i pins s σ H E I hf st hg
    subst hP hw hK
    obtain ⟨xs, x, hq, hx⟩ := hg
    obtain ⟨its, rv, p, hz⟩ := I.list hq
    obtain ⟨u, hu, ru⟩ := rv.get hx
    obtain ⟨f0, f1, f2, f3, f4, f5⟩ := hf it (by simp)
    refine wpAny_pyNext_list_item st p.isList (x := u) (by simpa using hu) fun h' st' sb => ?_
    have I1 : Inv X pins σ H { s with heap := h' } := I.turned (t' := s.toks) (fun b o hb e => (sb.2 b hb).trans e) f0 f1 f3 f4 f5
    obtain ⟨o, e, c, d⟩ := id st'
    exact ⟨u, rfl, go_of (s := { s with heap := h' }) e c d (by decide) ⟨x, H, I1, ru, ⟨rfl, fun ys hy => by rw [I.list_inj hy hq]; exact hx⟩, st', fun b hb => (hf b hb).1⟩⟩
  done := by
    intro X hP hw hK hc i pins s σ H E I hf st hg
    subst hP hw hK
    obtain ⟨xs, hq, hx⟩ := hg
    obtain ⟨its, rv, p, hz⟩ := I.list hq
    obtain ⟨f0, f1, f2, f3, f4, f5⟩ := hf it (by simp)
    have hl := rv.length
    exact wpAny_pyNext_list_end (I.ok.hd hc) st p.isList (by simp; omega) fun h' eb => ⟨rfl, I.turned (t' := s.toks) (fun b o hb e => eb b o hb e) f0 f1 f3 f4 f5⟩
  self := fun _ _ _ _ _ st h => wpAny_pyIter_listiter st h
theorem turn_range {P : Program} {w : World} {K : PySem.W.Frag} {tg : Expr} (it : Addr) (lo : Int) (n : Nat) : Turn P w K tg (Itr lo n) [it] it (fun i h => IsRangeIter h it (lo + (i : Nat) * 1) ((n : Int) - (i : Nat)) 1) where
  mem := by simp
  obj := fun i h st b hb => by
    have e : b = it := by simpa using hb
    subst e
    exact ⟨_, st, fun v z => by
      have z' : Data.fields _ = Data.cell v := z
      cases z'⟩
  keep := fun i h h' st k => k it (by simp) _ st
  item := by
    intro X hP hw hK hc i pins s σ H E I hf st hg
    subst hP hw hK
    obtain ⟨f0, f1, f2, f3, f4, f5⟩ := hf it (by simp)
    have W := Walks.range (prog := X.prog) (w := X.w) (I.ok.hd hc) it lo 1 n
    refine W.item i s _ _ hg st fun v h' tk hv st' kk => ?_
    obtain ⟨t, rfl⟩ := hv
    have I1 : Inv X pins σ H { s with heap := h', toks := tk } := I.turned (fun b o hb e => kk b o (by simpa using hb) e) f0 f1 f3 f4 f5
    refine ⟨_, rfl, go_of (s := { s with heap := h', toks := tk }) (n := "range_iterator") st' rfl rfl (by decide) ⟨.int (lo + i), H, I1, ⟨t, ?_⟩, ⟨rfl, rfl⟩, st', fun b hb => (hf b hb).1⟩⟩
    rw [Int.mul_one]
  done := by
    intro X hP hw hK hc i pins s σ H E I hf st hg
    subst hP hw hK
    obtain ⟨f0, f1, f2, f3, f4, f5⟩ := hf it (by simp)
    exact wpAny_pyNext_range_end (I.ok.hd hc) st (by have : n ≤ i := hg; omega) fun h' eb => ⟨rfl, I.turned (t' := s.toks) (fun b o hb e => eb b o hb e) f0 f1 f3 f4 f5⟩
  self := fun _ _ _ _ _ st h => wpAny_pyIter_rangeiter st h
end L2

namespace L2
open PySem PySem.Spec PyProof.Rows
section
variable {X : Cx} {tg : Expr}
def iList (K : PySem.W.Frag) (tl : TE) : TI := fun σ H R => tl σ H fun x H1 => ∃ a, x = .ref a ∧ (∃ xs, SqL K H1 a xs) ∧ R (Itl K a) H1
def iTup (K : PySem.W.Frag) (tl : TE) : TI := fun σ H R => tl σ H fun x H1 => ∃ a, x = .ref a ∧ (∃ xs, SqT K H1 a xs) ∧ R (Itt K a) H1
theorem pi_list {l : Expr} {tl : TE} (hl : PE X l tl) : PI X tg l (iList X.K tl) := by
  intro pins s σ H R I h
  refine thn (hl pins s σ H _ I h) fun v s1 ⟨x, H1, I1, r1, q1⟩ => ?_
  obtain ⟨a, e, ⟨xs, hq⟩, q⟩ := q1
  subst e
  cases r1
  obtain ⟨its, rv, p, hz⟩ := I1.list hq
  refine wpAny_pyIter_list p.isList ?_
  refine ⟨s1.heap.objs.size, [s1.heap.objs.size], _, _, H1, rfl, I1.kept (t' := s1.toks) fun b o e => Heap.get?_push_of_some _ e, turn_list a _, ⟨_, Heap.get?_push_size _ rfl, rfl, rfl⟩, fun b hb => ?_, q⟩
  have e : b = s1.heap.objs.size := by simpa using hb
  subst e
  exact I1.fpOk (Nat.le_refl _) (I1.hok.fresh (Nat.le_refl _))
/-- a range object just made, walked -/
theorem range_it {pins : List (Addr × Obj)} {σ : St} {H : Hp} {s : Shared} {R : It → Hp → Prop} {E : Value → Shared → Prop} {lo hi : Int} {t u v : Tok} {tk : Nat} (I : Inv X pins σ H s) (h1 : -(2 ^ 62) ≤ lo) (h2 : lo < 2 ^ 62) (h3 : -(2 ^ 62) ≤ hi) (h4 : hi < 2 ^ 62)
    (q : R (Itr lo (hi - lo).toNat) H) : wpAny (model X.prog X.w) X.A (pyIter (.ref s.heap.objs.size)) (PIE X pins σ tg R) E { s with heap := s.heap.push { cls := .type "range", data := .fields #[.int lo t, .int hi u, .int 1 v] }, toks := tk } := by
  refine wpAny_pyIter_range (IsRange.new ..) (small_one h1 h2 h3 h4) ?_
  have I1 : Inv X pins σ H { s with heap := s.heap.push { cls := .type "range", data := .fields #[.int lo t, .int hi u, .int 1 v] }, toks := tk } := I.kept fun b o e => Heap.get?_push_of_some _ e
  refine ⟨(s.heap.push { cls := .type "range", data := .fields #[.int lo t, .int hi u, .int 1 v] }).objs.size, [(s.heap.push { cls := .type "range", data := .fields #[.int lo t, .int hi u, .int 1 v] }).objs.size], _, _, H, rfl,
    I1.kept (t' := tk) fun b o e => Heap.get?_push_of_some _ e, turn_range _ lo (hi - lo).toNat, ?_, fun b hb => ?_, q⟩
  · have e1 : lo + ((0 : Nat) : Int) * 1 = lo := by simp
    have e2 : (((hi - lo).toNat : Nat) : Int) - ((0 : Nat) : Int) = Builtin.Range.rangeSize lo hi 1 := by rw [rangeSize_one]; split <;> omega
    show IsRangeIter _ _ (lo + ((0 : Nat) : Int) * 1) ((((hi - lo).toNat : Nat) : Int) - ((0 : Nat) : Int)) 1
    rw [e1, e2]
    exact Heap.get?_push_size _ rfl
  · have e : b = (s.heap.push { cls := .type "range", data := .fields #[.int lo t, .int hi u, .int 1 v] }).objs.size := by simpa using hb
    subst e
    exact I1.fpOk (Nat.le_refl _) (I1.hok.fresh (Nat.le_refl _))
def iRng1 (ta : TA) : TI := fun σ H R => ta σ H fun vs H1 => ∃ j : Int, vs = [.int j] ∧ -(2 ^ 62) ≤ j ∧ j < 2 ^ 62 ∧ R (Itr 0 j.toNat) H1
def iRng2 (ta : TA) : TI := fun σ H R => ta σ H fun vs H1 => ∃ i j : Int, vs = [.int i, .int j] ∧ (-(2 ^ 62) ≤ i ∧ i < 2 ^ 62 ∧ -(2 ^ 62) ≤ j ∧ j < 2 ^ 62) ∧ R (Itr i (j - i).toNat) H1
theorem pi_range1 {a : Expr} {ta : TA} {p pos : Pos} (hg : Gl X "range") (hm : X.mg "range" = none) (ha : PA X [a] ta) (hs : starEach [a] X.env = [(false, eval a X.env)] := by rfl) : PI X tg (.Call (.Name "range" p) [a] [] pos) (iRng1 ta) := by
  intro pins s σ H R I h
  refine Call_ (ld_blt I hg hm boot_range (PyProof.Rows.callWith_type1 (thn (ha pos pins s σ H _ I h) fun us s1 ⟨vs, H1, I1, r1, q1⟩ => ?_) hs rfl))
  obtain ⟨j, e, q1, q2, q⟩ := q1
  subst e
  cases r1 with
  | cons r rr =>
    cases rr
    obtain ⟨t, rfl⟩ := r
    exact call_range_1 (range_it I1 (by omega) (by omega) q1 q2 (by simpa using q))
theorem pi_range2 {a b : Expr} {ta : TA} {p pos : Pos} (hg : Gl X "range") (hm : X.mg "range" = none) (ha : PA X [a, b] ta) (hs : starEach [a, b] X.env = [(false, eval a X.env), (false, eval b X.env)] := by rfl) (hs2 : starEach [b] X.env = [(false, eval b X.env)] := by rfl) :
    PI X tg (.Call (.Name "range" p) [a, b] [] pos) (iRng2 ta) := by
  intro pins s σ H R I h
  refine Call_ (ld_blt I hg hm boot_range (PyProof.Rows.callWith_type1 (thn (ha pos pins s σ H _ I h) fun us s1 ⟨vs, H1, I1, r1, q1⟩ => ?_) (by rw [hs, hs2]) (by rw [hs2]; rfl)))
  obtain ⟨i, j, e, ⟨q1, q2, q3, q4⟩, q⟩ := q1
  subst e
  cases r1 with
  | cons r rr =>
    cases rr with
    | cons r' rr =>
      cases rr
      obtain ⟨t, rfl⟩ := r
      obtain ⟨t', rfl⟩ := r'
      exact call_range_2 (range_it I1 q1 q2 q3 q4 q)

/-! ### for -/
/-- W: the invariant by the turn and a measure; N: what the body is to reach -/
def tFor (wi : TI) (g : TG) (tb : TS) : TS := fun D σ H => wi σ H fun J H1 => ∃ W : Nat → Nat → St → Hp → Prop, (∃ m, W 0 m σ H1) ∧ ∀ i m σ H, W i m σ H →
  (J.stop i H ∧ D.nx σ H) ∨ (J.go i H ∧ ∃ N : St → Hp → Prop, (∀ σ' H', N σ' H' → ∃ m', m' < m ∧ W (i + 1) m' σ' H') ∧ ∀ x H', J.yld i H x H' → g x σ H' fun σ2 H2 => tb { D with nx := N, ct := N, bk := D.nx } σ2 H2)
/-- the records at fp as they stand -/
def pinsAt (fp : List Addr) (h : Heap) : List (Addr × Obj) := fp.filterMap fun b => (h.get? b).map fun o => (b, o)
theorem mem_pinsAt {fp : List Addr} {h : Heap} {b : Addr} {o : Obj} (hb : b ∈ fp) (e : h.get? b = some o) : (b, o) ∈ pinsAt fp h := List.mem_filterMap.mpr ⟨b, hb, by rw [e]; rfl⟩
theorem of_pinsAt {fp : List Addr} {h : Heap} {p : Addr × Obj} (hp : p ∈ pinsAt fp h) : p.1 ∈ fp ∧ h.get? p.1 = some p.2 := by
  obtain ⟨b, hb, e⟩ := List.mem_filterMap.mp hp
  cases q : h.get? b with
  | none => rw [q] at e; cases e
  | some o =>
    rw [q] at e
    have e' : (b, o) = p := Option.some.inj e
    subst e'
    exact ⟨hb, q⟩
theorem Inv.pinned {pins : List (Addr × Obj)} {σ : St} {H : Hp} {s : Shared} {fp : List Addr} (I : Inv X pins σ H s) (hf : ∀ b ∈ fp, FpOk X pins H b) (ho : ∀ b ∈ fp, ∃ o, s.heap.get? b = some o ∧ ∀ v, o.data ≠ .cell v) : Inv X (pins ++ pinsAt fp s.heap) σ H s :=
  I.pins_of fun p hp => (List.mem_append.mp hp).elim (fun z => I.pin p (List.mem_append_right _ z)) fun z => by
    obtain ⟨hb, e⟩ := of_pinsAt z
    obtain ⟨f0, f1, f2, _⟩ := hf p.1 hb
    obtain ⟨o, e', d⟩ := ho p.1 hb
    rw [e] at e'; cases e'
    exact ⟨e, f0, f1, f2, d⟩
theorem Inv.unpinned {pins pl : List (Addr × Obj)} {σ : St} {H : Hp} {s : Shared} (I : Inv X (pins ++ pl) σ H s) : Inv X pins σ H s := I.pins_of fun p hp => I.pin p (List.mem_append_right _ (List.mem_append_left _ hp))
theorem ps_for {iter : Expr} {body : List Stmt} {wi : TI} {g : TG} {tb : TS} {pos : Pos} (hp : PassesOwn (model X.prog X.w) X.A X.env X.xe) (hc : X.calm = true) (hi : PI X tg iter wi) (hg : PG X tg g) (hb : PSs X body tb)
    (hs : ∀ x, foldedSetIterable iter X.env x = pure x := by intro _; rfl) : PS X (.For tg iter body [] pos) (tFor wi g tb) := by
  intro pins s σ H D I h
  refine wpAny_For (thn (hi pins s σ H _ I h) fun v s1 h1 => thn h1 fun itv s2 h2 => ?_) hs
  obtain ⟨it, fp, tn, J, H2, e, I2, T, st2, f2, W, ⟨m0, w0⟩, turn⟩ := h2
  subst e
  -- what stays true of the iterator's objects through the loop
  have stat : ∀ {H' : Hp}, (∀ b ∈ fp, H' b = none) → ∀ b ∈ fp, FpOk X pins H' b := fun hn b hb => ⟨hn b hb, (f2 b hb).2⟩
  refine codeAny_forLoop_any (fun n s' => ∃ i σ' H', Inv X pins σ' H' s' ∧ tn i s'.heap ∧ (∀ b ∈ fp, H' b = none) ∧ W i n σ' H') ?_ m0 ⟨0, σ, H2, I2, st2, fun b hb => (f2 b hb).1, w0⟩
  rintro n s3 ⟨i, σ3, H3, I3, st3, fr3, w3⟩
  rcases turn i n σ3 H3 w3 with ⟨stop, qn⟩ | ⟨go, N, hN, step⟩
  · refine wpAny_passesOwn hp (thn (T.done X rfl rfl rfl hc i pins s3 σ3 H3 X.xe I3 (stat fr3) st3 stop) fun r s4 ⟨hr, I4⟩ => ?_)
    subst hr
    exact wpAny_execs_nil ⟨σ3, H3, I4, qn⟩
  · refine wpAny_passesOwn hp (thn (T.item X rfl rfl rfl hc i pins s3 σ3 H3 X.xe I3 (stat fr3) st3 go) fun r s4 ⟨u, hr, h4⟩ => ?_)
    subst hr
    refine wpAny_passesOwn hp (thn h4 fun _ s5 ⟨x, H5, I5, r5, y5, st5, fr5⟩ => ?_)
    have I5' := I5.pinned (stat fr5) (T.obj _ _ st5)
    refine wpAny_passesOwn hp (thn (hg _ s5 σ3 H5 x u _ I5' r5 (step x H5 y5)) fun _ s6 ⟨σ6, H6, I6, q6⟩ => ?_)
    refine wpAny_passesOwn hp (thn (hb _ s6 σ6 H6 _ I6 q6) fun f s7 q7 => ?_)
    have again : ∀ {σ7 : St} {H7 : Hp}, Inv X (pins ++ pinsAt fp s5.heap) σ7 H7 s7 → N σ7 H7 → ∃ m, m < n ∧ ∃ i σ' H', Inv X pins σ' H' s7 ∧ tn i s7.heap ∧ (∀ b ∈ fp, H' b = none) ∧ W i m σ' H' := fun {σ7 H7} I7 n7 => by
      obtain ⟨m', hm, w7⟩ := hN σ7 H7 n7
      refine ⟨m', hm, i + 1, σ7, H7, I7.unpinned, T.keep _ _ _ st5 fun b hb o e => (I7.pin (b, o) (List.mem_append_right _ (List.mem_append_right _ (mem_pinsAt hb e)))).1, fun b hb => ?_, w7⟩
      obtain ⟨o, e, d⟩ := T.obj _ _ st5 b hb
      exact (I7.pin (b, o) (List.mem_append_right _ (List.mem_append_right _ (mem_pinsAt hb e)))).2.1
    cases f with
    | next => obtain ⟨σ7, H7, I7, n7⟩ := q7; exact again I7 n7
    | cont => obtain ⟨σ7, H7, I7, n7⟩ := q7; exact again I7 n7
    | brk => obtain ⟨σ7, H7, I7, q7⟩ := q7; exact ⟨σ7, H7, I7.unpinned, q7⟩
    | ret v => obtain ⟨x7, σ7, H7, I7, r7, q7⟩ := q7; exact ⟨x7, σ7, H7, I7.unpinned, r7, q7⟩
end

/-! ### the forms one uses -/
/-- over a list that the body leaves as it is -/
theorem for_list {K : PySem.W.Frag} {a : Addr} {xs : List V} {g : TG} {tb : TS} {D : Ends} {σ : St} {H : Hp} (Pv : Nat → St → Hp → Prop) (h0 : Pv 0 σ H) (hl : ∀ i σ H, i ≤ xs.length → Pv i σ H → SqL K H a xs)
    (hs : ∀ i x σ H, xs[i]? = some x → Pv i σ H → g x σ H fun σ2 H2 => tb { D with nx := Pv (i + 1), ct := Pv (i + 1), bk := D.nx } σ2 H2) (hd : ∀ σ H, Pv xs.length σ H → D.nx σ H) :
    ∃ W : Nat → Nat → St → Hp → Prop, (∃ m, W 0 m σ H) ∧ ∀ i m σ H, W i m σ H →
      ((Itl K a).stop i H ∧ D.nx σ H) ∨ ((Itl K a).go i H ∧ ∃ N : St → Hp → Prop, (∀ σ' H', N σ' H' → ∃ m', m' < m ∧ W (i + 1) m' σ' H') ∧ ∀ x H', (Itl K a).yld i H x H' → g x σ H' fun σ2 H2 => tb { D with nx := N, ct := N, bk := D.nx } σ2 H2) := by
  refine ⟨fun i m σ H => m = xs.length - i ∧ i ≤ xs.length ∧ Pv i σ H, ⟨xs.length, by simp, Nat.zero_le _, h0⟩, ?_⟩
  rintro i m σ H ⟨rfl, hi, p⟩
  have q := hl i σ H hi p
  by_cases hlt : i < xs.length
  · refine .inr ⟨⟨xs, xs[i], q, by simp [hlt]⟩, Pv (i + 1), fun σ' H' p' => ⟨xs.length - (i + 1), by omega, rfl, hlt, p'⟩, fun x H' y => ?_⟩
    obtain ⟨e, y⟩ := y
    subst e
    exact hs i x σ _ (y xs q) p
  · have e : i = xs.length := by omega
    subst e
    exact .inl ⟨⟨xs, q, Nat.le_refl _⟩, hd σ H p⟩
theorem for_range {lo : Int} {n : Nat} {g : TG} {tb : TS} {D : Ends} {σ : St} {H : Hp} (Pv : Nat → St → Hp → Prop) (h0 : Pv 0 σ H)
    (hs : ∀ i σ H, i < n → Pv i σ H → g (.int (lo + i)) σ H fun σ2 H2 => tb { D with nx := Pv (i + 1), ct := Pv (i + 1), bk := D.nx } σ2 H2) (hd : ∀ σ H, Pv n σ H → D.nx σ H) :
    ∃ W : Nat → Nat → St → Hp → Prop, (∃ m, W 0 m σ H) ∧ ∀ i m σ H, W i m σ H →
      ((Itr lo n).stop i H ∧ D.nx σ H) ∨ ((Itr lo n).go i H ∧ ∃ N : St → Hp → Prop, (∀ σ' H', N σ' H' → ∃ m', m' < m ∧ W (i + 1) m' σ' H') ∧ ∀ x H', (Itr lo n).yld i H x H' → g x σ H' fun σ2 H2 => tb { D with nx := N, ct := N, bk := D.nx } σ2 H2) := by
  refine ⟨fun i m σ H => m = n - i ∧ i ≤ n ∧ Pv i σ H, ⟨n, by simp, Nat.zero_le _, h0⟩, ?_⟩
  rintro i m σ H ⟨rfl, hi, p⟩
  by_cases hlt : i < n
  · refine .inr ⟨hlt, Pv (i + 1), fun σ' H' p' => ⟨n - (i + 1), by omega, rfl, hlt, p'⟩, fun x H' y => ?_⟩
    obtain ⟨e, y⟩ := y
    subst e y
    exact hs i σ _ hlt p
  · have e : i = n := by omega
    subst e
    exact .inl ⟨Nat.le_refl _, hd σ H p⟩
end L2

namespace L2
open PySem PySem.Spec PyProof.Rows

abbrev R2 := V → V → Hp → VK → Prop
/-- a two-place operation on values: f is binaryOp op, inplaceOp op or compareOp op -/
def OpR (X : Cx) (f : Value → Value → Sem Value) (r : R2) : Prop :=
  ∀ (pins : List (Addr × Obj)) (s : Shared) (σ : St) (H : Hp) (x y : V) (v u : Value) (Q : VK), Inv X pins σ H s → RelV x v → RelV y u → r x y H Q →
    wpAny (model X.prog X.w) X.A (f v u) (EP X pins σ Q) X.xe s
/-- a one-place operation -/
def UnR (X : Cx) (f : Value → Sem Value) (r : V → Hp → VK → Prop) : Prop :=
  ∀ (pins : List (Addr × Obj)) (s : Shared) (σ : St) (H : Hp) (x : V) (v : Value) (Q : VK), Inv X pins σ H s → RelV x v → r x H Q →
    wpAny (model X.prog X.w) X.A (f v) (EP X pins σ Q) X.xe s
/-- a call of a value that is known (a builtin, a type) with values -/
def CallR (X : Cx) (f : Value) (r : List V → Hp → VK → Prop) : Prop :=
  ∀ (pins : List (Addr × Obj)) (s : Shared) (σ : St) (H : Hp) (xs : List V) (us : List Value) (Q : VK), Inv X pins σ H s → Vals xs us → r xs H Q →
    wpAny (model X.prog X.w) X.A (call f us) (EP X pins σ Q) X.xe s
/-- a value's truth -/
def TruR (X : Cx) (r : V → Hp → (Bool → Hp → Prop) → Prop) : Prop :=
  ∀ (pins : List (Addr × Obj)) (s : Shared) (σ : St) (H : Hp) (x : V) (v : Value) (Q : Bool → Hp → Prop), Inv X pins σ H s → RelV x v → r x H Q →
    wpAny (model X.prog X.w) X.A (truthy v) (TP X pins σ Q) X.xe s

def tOp (r : R2) (ta tb : TE) : TE := fun σ H Q => ta σ H fun x H1 => tb σ H1 fun y H2 => r x y H2 Q
def tUn (r : V → Hp → VK → Prop) (ta : TE) : TE := fun σ H Q => ta σ H fun x H1 => r x H1 Q
/-- ints in, under C, and a value out -/
def rI (C : Int → Int → Prop) (g : Int → Int → V) : R2 := fun x y H Q => ∃ i j, x = .int i ∧ y = .int j ∧ C i j ∧ Q (g i j) H
def rI0 (g : Int → Int → V) : R2 := fun x y H Q => ∃ i j, x = .int i ∧ y = .int j ∧ Q (g i j) H
def rU (g : Int → V) : V → Hp → VK → Prop := fun x H Q => ∃ i, x = .int i ∧ Q (g i) H

section
variable {X : Cx} {a b c : Expr} {ta tb tc : TE} {pos : Pos}

theorem binT (ha : PE X a ta) (hb : PE X b tb) {pins : List (Addr × Obj)} {s : Shared} {σ : St} {H : Hp} {R : V → V → Hp → Prop} (I : Inv X pins σ H s)
    (h : ta σ H fun x H1 => tb σ H1 fun y H2 => R x y H2) {Q : Value → Shared → Prop} {f : Value → Value → Sem Value}
    (hf : ∀ v u s2 x y H2, Inv X pins σ H2 s2 → RelV x v → RelV y u → R x y H2 → wpAny (model X.prog X.w) X.A (f v u) Q X.xe s2) :
    wpAny (model X.prog X.w) X.A (eval a X.env) (fun v s₁ => wpAny (model X.prog X.w) X.A (eval b X.env) (fun u s₂ => wpAny (model X.prog X.w) X.A (f v u) Q X.xe s₂) X.xe s₁) X.xe s := by
  refine thn (ha pins s σ H _ I h) fun v s1 ⟨x, H1, I1, r1, q1⟩ => ?_
  refine thn (hb pins s1 σ H1 _ I1 q1) fun u s2 ⟨y, H2, I2, r2, q2⟩ => ?_
  exact hf v u s2 x y H2 I2 r1 r2 q2

theorem pe_op {op : Operator} {r : R2} (ho : OpR X (binaryOp op) r) (ha : PE X a ta) (hb : PE X b tb) : PE X (.BinOp a op b pos) (tOp r ta tb) := by
  intro pins s σ H Q I h
  exact wpAny_BinOp (binT ha hb I h fun v u s2 x y H2 I2 rx ry q => ho pins s2 σ H2 x y v u Q I2 rx ry q)
/-! ### ints -/
theorem opI {f : Value → Value → Sem Value} {C : Int → Int → Prop} {g : Int → Int → Int}
    (rule : ∀ (i j : Int) (t u : Tok) (s : Shared) (Q : Value → Shared → Prop) (E : Value → Shared → Prop), C i j → Q (.int (g i j) s.toks) { s with toks := s.toks + 1 } → wpAny (model X.prog X.w) X.A (f (.int i t) (.int j u)) Q E s) :
    OpR X f (rI C fun i j => .int (g i j)) := by
  intro pins s σ H x y v u Q I rx ry h
  obtain ⟨i, j, rfl, rfl, hc, q⟩ := h
  obtain ⟨t, rfl⟩ := rx
  obtain ⟨t', rfl⟩ := ry
  exact rule i j t t' s _ _ hc ⟨.int (g i j), H, I.tok _, ⟨_, rfl⟩, q⟩
theorem opI0 {f : Value → Value → Sem Value} {g : Int → Int → Int}
    (rule : ∀ (i j : Int) (t u : Tok) (s : Shared) (Q : Value → Shared → Prop) (E : Value → Shared → Prop), Q (.int (g i j) s.toks) { s with toks := s.toks + 1 } → wpAny (model X.prog X.w) X.A (f (.int i t) (.int j u)) Q E s) :
    OpR X f (rI0 fun i j => .int (g i j)) := by
  intro pins s σ H x y v u Q I rx ry h
  obtain ⟨i, j, rfl, rfl, q⟩ := h
  obtain ⟨t, rfl⟩ := rx
  obtain ⟨t', rfl⟩ := ry
  exact rule i j t t' s _ _ ⟨.int (g i j), H, I.tok _, ⟨_, rfl⟩, q⟩
theorem opB0 {f : Value → Value → Sem Value} {g : Int → Int → Bool}
    (rule : ∀ (i j : Int) (t u : Tok) (s : Shared) (Q : Value → Shared → Prop) (E : Value → Shared → Prop), Q (.bool (g i j)) s → wpAny (model X.prog X.w) X.A (f (.int i t) (.int j u)) Q E s) :
    OpR X f (rI0 fun i j => .bl (g i j)) := by
  intro pins s σ H x y v u Q I rx ry h
  obtain ⟨i, j, rfl, rfl, q⟩ := h
  obtain ⟨t, rfl⟩ := rx
  obtain ⟨t', rfl⟩ := ry
  exact rule i j t t' s _ _ ⟨.bl (g i j), H, I, rfl, q⟩

def CDiv (i j : Int) : Prop := 0 < j ∧ j < 1073741824
def CDivN (i j : Int) : Prop := j ≠ 0 ∧ j.natAbs < 1073741824
def CPow (i j : Int) : Prop := 0 ≤ j ∧ j ≤ 1000000 ∧ i.natAbs < 2 ^ 64
def CMul (i j : Int) : Prop := (-(2 ^ 64) < i ∧ i < 2 ^ 64) ∨ (-(2 ^ 64) < j ∧ j < 2 ^ 64)
theorem op_add : OpR X (binaryOp .Add) (rI0 fun i j => .int (i + j)) := opI0 fun _ _ _ _ _ _ _ q => add_int q
theorem op_sub : OpR X (binaryOp .Sub) (rI0 fun i j => .int (i - j)) := opI0 fun _ _ _ _ _ _ _ q => sub_int q
/-- % by a positive divisor of any size -/
theorem op_mod : OpR X (binaryOp .Mod) (rI (fun _ j => 0 < j) fun i j => .int (i % j)) := opI fun i j _ _ _ _ _ hc q => by
  have h1 : (0 : Int) < j := hc
  exact mod_int' (by omega) (by rw [Int.fmod_eq_emod_of_nonneg i (by omega)]; exact q)
/-! ### bools among ints: n += (a < b) -/
end

/-! ### comparisons -/
/-- the scalars that == tells apart as data does -/
def scal : V → V → Bool
  | .non, .non => true | .non, .int _ => true | .int _, .non => true | .non, .bl _ => true | .bl _, .non => true | .non, .str _ => true | .str _, .non => true
  | .int _, .int _ => true | .bl _, .bl _ => true | .str _, .str _ => true | .byt _, .byt _ => true
  | .int _, .str _ => true | .str _, .int _ => true | .bl _, .str _ => true | .str _, .bl _ => true
  | _, _ => false
def rEq : R2 := fun x y H Q => scal x y = true ∧ Q (.bl (decide (x = y))) H
def rNe : R2 := fun x y H Q => scal x y = true ∧ Q (.bl (!decide (x = y))) H

theorem dec_int {i j : Int} : decide (V.int i = V.int j) = (i == j) := by
  rw [Bool.eq_iff_iff]
  simp
theorem dec_bl {i j : Bool} : decide (V.bl i = V.bl j) = (i == j) := by
  rw [Bool.eq_iff_iff]
  simp
theorem dec_str {i j : Str} : decide (V.str i = V.str j) = (i == j) := by
  rw [Bool.eq_iff_iff]
  simp
theorem dec_byt {i j : Array UInt8} : decide (V.byt i = V.byt j) = (i.toList == j.toList) := by
  rw [Bool.eq_iff_iff]
  cases i
  cases j
  simp

section
variable {X : Cx} {a b c : Expr} {ta tb tc : TE} {pos : Pos}
theorem fin_bl {pins : List (Addr × Obj)} {σ : St} {H : Hp} {s : Shared} {Q : VK} {k k' : Bool} (I : Inv X pins σ H s) (q : Q (.bl k) H) (e : k = k') : EP X pins σ Q (.bool k') s := by
  subst e
  exact ⟨.bl k, H, I, rfl, q⟩
theorem op_eq : OpR X (compareOp .Eq) rEq := by
  intro pins s σ H x y v u Q I rx ry h
  obtain ⟨hs, q⟩ := h
  cases x with
  | non =>
    cases rx
    cases y with
    | non => cases ry; exact PySem.EqNone.eq_none_none (fin_bl I q (by simp))
    | bl j => cases ry; exact PySem.EqNone.eq_none_bool (fin_bl I q (by simp))
    | int j => obtain ⟨t', rfl⟩ := ry; exact PySem.EqNone.eq_none_int (fin_bl I q (by simp))
    | str j => obtain ⟨t', rfl⟩ := ry; exact PySem.EqNone.eq_none_str (fin_bl I q (by simp))
    | _ => exact absurd (show false = true from hs) Bool.false_ne_true
  | bl i =>
    cases rx
    cases y with
    | non => cases ry; exact PySem.EqNone.eq_bool_none (fin_bl I q (by simp))
    | bl j => cases ry; exact eq_bool (fin_bl I q dec_bl)
    | str j => obtain ⟨t', rfl⟩ := ry; exact PySem.EqMixed.eq_bool_str (fin_bl I q (by simp))
    | _ => exact absurd (show false = true from hs) Bool.false_ne_true
  | int i =>
    obtain ⟨t, rfl⟩ := rx
    cases y with
    | non => cases ry; exact PySem.EqNone.eq_int_none (fin_bl I q (by simp))
    | int j => obtain ⟨t', rfl⟩ := ry; exact eq_int (fin_bl I q dec_int)
    | str j => obtain ⟨t', rfl⟩ := ry; exact PySem.EqMixed.eq_int_str (fin_bl I q (by simp))
    | _ => exact absurd (show false = true from hs) Bool.false_ne_true
  | str i =>
    obtain ⟨t, rfl⟩ := rx
    cases y with
    | non => cases ry; exact PySem.EqNone.eq_str_none (fin_bl I q (by simp))
    | bl j => cases ry; exact PySem.EqMixed.eq_str_bool (fin_bl I q (by simp))
    | int j => obtain ⟨t', rfl⟩ := ry; exact PySem.EqMixed.eq_str_int (fin_bl I q (by simp))
    | str j => obtain ⟨t', rfl⟩ := ry; exact eq_str (fin_bl I q dec_str)
    | _ => exact absurd (show false = true from hs) Bool.false_ne_true
  | byt i =>
    obtain ⟨t, rfl⟩ := rx
    cases y with
    | byt j => obtain ⟨t', rfl⟩ := ry; exact PySem.W.eq_bytes (fin_bl I q dec_byt)
    | _ => exact absurd (show false = true from hs) Bool.false_ne_true
  | _ => cases y <;> exact absurd (show false = true from hs) Bool.false_ne_true
theorem op_ne : OpR X (compareOp .NotEq) rNe := by
  intro pins s σ H x y v u Q I rx ry h
  obtain ⟨hs, q⟩ := h
  cases x with
  | non =>
    cases rx
    cases y with
    | non => cases ry; exact PySem.EqNone.ne_none_none (fin_bl I q (by simp))
    | bl j => cases ry; exact PySem.EqNone.ne_none_bool (fin_bl I q (by simp))
    | int j => obtain ⟨t', rfl⟩ := ry; exact PySem.EqNone.ne_none_int (fin_bl I q (by simp))
    | str j => obtain ⟨t', rfl⟩ := ry; exact PySem.EqNone.ne_none_str (fin_bl I q (by simp))
    | _ => exact absurd (show false = true from hs) Bool.false_ne_true
  | bl i =>
    cases rx
    cases y with
    | non => cases ry; exact PySem.EqNone.ne_bool_none (fin_bl I q (by simp))
    | bl j => cases ry; exact ne_bool (fin_bl I q (congrArg not dec_bl))
    | str j => obtain ⟨t', rfl⟩ := ry; exact PySem.EqMixed.ne_bool_str (fin_bl I q (by simp))
    | _ => exact absurd (show false = true from hs) Bool.false_ne_true
  | int i =>
    obtain ⟨t, rfl⟩ := rx
    cases y with
    | non => cases ry; exact PySem.EqNone.ne_int_none (fin_bl I q (by simp))
    | int j => obtain ⟨t', rfl⟩ := ry; exact ne_int (fin_bl I q (congrArg not dec_int))
    | str j => obtain ⟨t', rfl⟩ := ry; exact PySem.EqMixed.ne_int_str (fin_bl I q (by simp))
    | _ => exact absurd (show false = true from hs) Bool.false_ne_true
  | str i =>
    obtain ⟨t, rfl⟩ := rx
    cases y with
    | non => cases ry; exact PySem.EqNone.ne_str_none (fin_bl I q (by simp))
    | bl j => cases ry; exact PySem.EqMixed.ne_str_bool (fin_bl I q (by simp))
    | int j => obtain ⟨t', rfl⟩ := ry; exact PySem.EqMixed.ne_str_int (fin_bl I q (by simp))
    | str j => obtain ⟨t', rfl⟩ := ry; exact ne_str (fin_bl I q (congrArg not dec_str))
    | _ => exact absurd (show false = true from hs) Bool.false_ne_true
  | byt i =>
    obtain ⟨t, rfl⟩ := rx
    cases y with
    | byt j => obtain ⟨t', rfl⟩ := ry; exact PySem.W.ne_bytes (fin_bl I q (congrArg not dec_byt))
    | _ => exact absurd (show false = true from hs) Bool.false_ne_true
  | _ => cases y <;> exact absurd (show false = true from hs) Bool.false_ne_true

theorem op_lt : OpR X (compareOp .Lt) (rI0 fun i j => .bl (decide (i < j))) := opB0 fun _ _ _ _ _ _ _ q => lt_int q
theorem op_gt : OpR X (compareOp .Gt) (rI0 fun i j => .bl (decide (j < i))) := opB0 fun _ _ _ _ _ _ _ q => gt_int q
theorem op_ge : OpR X (compareOp .GtE) (rI0 fun i j => .bl (decide (j ≤ i))) := opB0 fun _ _ _ _ _ _ _ q => ge_int q
/-- is None, is not None: the right side a value none -/
theorem op_isN : OpR X (compareOp .Is) (fun x y H Q => y = .non ∧ Q (.bl (decide (x = .non))) H) := by
  intro pins s σ H x y v u Q I rx ry h
  obtain ⟨rfl, q⟩ := h
  cases ry
  refine is_none_gen (fin_bl I q ?_)
  cases x <;> first
    | (cases rx; rfl)
    | (obtain ⟨t, rfl⟩ := rx; rfl)
theorem op_notN : OpR X (compareOp .IsNot) (fun x y H Q => y = .non ∧ Q (.bl (!decide (x = .non))) H) := by
  intro pins s σ H x y v u Q I rx ry h
  obtain ⟨rfl, q⟩ := h
  cases ry
  refine isnot_none_gen (fin_bl I q ?_)
  cases x <;> first
    | (cases rx; rfl)
    | (obtain ⟨t, rfl⟩ := rx; rfl)

/-- is, is not of two objects that are tracked lists or instances -/
def isObj : HO → Bool
  | .lst _ => true
  | .ins _ _ _ => true
  | _ => false
theorem nomark (b : Expr) {op : CmpOp} (h : op ≠ .In := by decide) (h2 : op ≠ .NotIn := by decide) : behindInMarks op b = false := by
  have e1 : (op == CmpOp.In) = false := by cases op <;> first | rfl | exact absurd rfl h
  have e2 : (op == CmpOp.NotIn) = false := by cases op <;> first | rfl | exact absurd rfl h2
  cases b <;> simp [behindInMarks, e1, e2]
/-- a comparison as a value; hm: nomark b, or (for in, not in) by with_unfolding_all rfl -/
theorem pe_cmpR {op : CmpOp} {r : R2} (ho : OpR X (compareOp op) r) (ha : PE X a ta) (hb : PE X b tb) (hm : behindInMarks op b = false) : PE X (.Compare a [op] [b] pos) (tOp r ta tb) := by
  intro pins s σ H Q I h
  exact wpAny_Compare1 (binT ha hb I h fun v u s2 x y H2 I2 rx ry q => ho pins s2 σ H2 x y v u Q I2 rx ry q) hm
/-- a reading of a value as a test -/
def tTest (t : TE) : TT := fun σ H Q => t σ H fun x H' => ∃ k, x = .bl k ∧ Q k H'
theorem pt_cmpR {op : CmpOp} {r : R2} (ho : OpR X (compareOp op) r) (ha : PE X a ta) (hb : PE X b tb) (hm : behindInMarks op b = false) : PT X (.Compare a [op] [b] pos) (tTest (tOp r ta tb)) := by
  intro pins s σ H Q I h
  refine wpAny_isTrue_Compare1 (thn (ha pins s σ H _ I h) fun v s1 ⟨x, H1, I1, r1, q1⟩ => thn (hb pins s1 σ H1 _ I1 q1) fun u s2 ⟨y, H2, I2, r2, q2⟩ =>
    thn (ho pins s2 σ H2 x y v u _ I2 r1 r2 q2) fun c s3 ⟨z, H3, I3, r3, k, e, q3⟩ => ?_) hm
  subst e
  cases r3
  exact wpAny_truthy_bool ⟨H3, I3, q3⟩
/-- a op1 b op2 c -/
def tChain (r r' : R2) (ta tb tc : TE) : TE := fun σ H Q => ta σ H fun x H1 => tb σ H1 fun y H2 => r x y H2 fun z H3 => ∃ k, z = .bl k ∧
  (if k = true then tc σ H3 fun w' H4 => r' y w' H4 Q else Q (.bl false) H3)
/-! ### truth -/
/-- a value's truth by the abstract heap -/
def TruV (K : PySem.W.Frag) (x : V) (H : Hp) (k : Bool) : Prop :=
  match x with
  | .non => k = false
  | .bl b => k = b
  | .int i => k = (i != 0)
  | .str y => y.length ≤ sizeLine ∧ k = ((y.length : Int) != 0)
  | .byt y => y.size ≤ sizeLine ∧ k = ((y.size : Int) != 0)
  | .ref p => (∃ xs, SqL K H p xs ∧ k = !xs.isEmpty) ∨ (∃ xs, SqT K H p xs ∧ k = !xs.isEmpty) ∨ ∃ kvs, H p = some (.dK kvs) ∧ k = !kvs.isEmpty
  | _ => False
theorem line63 : (sizeLine : Nat) < 2 ^ 63 := by rw [sizeLine_eq]; decide
/-! ### strs and bytes -/
theorem op_add_str : OpR X (binaryOp .Add) (fun x y H Q => ∃ i j, x = .str i ∧ y = .str j ∧ i.length + j.length ≤ sizeLine ∧ Q (.str (i ++ j)) H) := by
  intro pins s σ H x y v u Q I rx ry h
  obtain ⟨i, j, rfl, rfl, hz, q⟩ := h
  obtain ⟨t, rfl⟩ := rx
  obtain ⟨t', rfl⟩ := ry
  exact add_str (fun t' tk => ⟨.str (i ++ j), H, I.tok _, ⟨_, rfl⟩, q⟩) hz
def PlainIxT (b : Expr) : Prop := ∀ o i, subscripted b false o i = operate [o, i] (getItem o i)
/-! ### scalar builtins, by CallR -/
theorem vals1 {x : V} {us : List Value} (r : Vals [x] us) : ∃ u, us = [u] ∧ RelV x u := by
  cases r with
  | cons r1 r2 => cases r2; exact ⟨_, rfl, r1⟩
theorem vals2 {x y : V} {us : List Value} (r : Vals [x, y] us) : ∃ u w', us = [u, w'] ∧ RelV x u ∧ RelV y w' := by
  cases r with
  | cons r1 r2 =>
    cases r2 with
    | cons r3 r4 => cases r4; exact ⟨_, _, rfl, r1, r3⟩
theorem call_abs : CallR X (.builtin "abs") (fun xs H Q => ∃ i, xs = [.int i] ∧ Q (.int (if i < 0 then -i else i)) H) := by
  intro pins s σ H xs us Q I r h
  obtain ⟨i, rfl, q⟩ := h
  obtain ⟨u, rfl, t, rfl⟩ := vals1 r
  exact call_abs_int fun u tk => ⟨.int (if i < 0 then -i else i), H, I.tok _, ⟨_, rfl⟩, q⟩
theorem call_min2 (hc : X.calm = true) : CallR X (.builtin "min") (fun xs H Q => ∃ i j, xs = [.int i, .int j] ∧ Q (.int (if j < i then j else i)) H) := by
  intro pins s σ H xs us Q I r h
  obtain ⟨i, j, rfl, q⟩ := h
  obtain ⟨u, w', rfl, ⟨t, rfl⟩, ⟨t', rfl⟩⟩ := vals2 r
  refine min_two_ints (I.ok.hd hc) fun h' tk k => ⟨_, H, I.kept k, ?_, q⟩
  by_cases hj : j < i
  · rw [if_pos hj, if_pos hj]; exact ⟨_, rfl⟩
  · rw [if_neg hj, if_neg hj]; exact ⟨_, rfl⟩
theorem call_str_int : CallR X (.type "str") (fun xs H Q => ∃ i, xs = [.int i] ∧ i.natAbs.log2 < 1920 ∧ Q (.str (toString i)) H) := by
  intro pins s σ H xs us Q I r h
  obtain ⟨i, rfl, hz, q⟩ := h
  obtain ⟨u, rfl, t, rfl⟩ := vals1 r
  exact PySem.P.str_of_int hz ⟨.str _, H, I.tok _, ⟨_, rfl⟩, q⟩
/-- len of a str, a bytes, a list, a tuple -/
def LenV (K : PySem.W.Frag) (x : V) (H : Hp) (n : Nat) : Prop :=
  match x with
  | .str y => y.length ≤ sizeLine ∧ n = y.length
  | .byt y => y.size ≤ sizeLine ∧ n = y.size
  | .ref p => (∃ xs, SqL K H p xs ∧ n = xs.length) ∨ ∃ xs, SqT K H p xs ∧ n = xs.length
  | _ => False
end
end L2

namespace L2
open PySem PySem.Spec PyProof.Rows

/-! ### an instance, its attributes a map -/
structure ObjM (h : Heap) (x dx C : Addr) (mA : Str → Option Value) : Prop where
  obj : h.get? x = some (PySem.W.instObj C dx)
  ns : h.Ns1 dx mA
  ne : dx ≠ x

section
variable {prog : Program} {w : World} {A : Around} {E : Value → Shared → Prop} {s : Shared} {K : PySem.W.Frag} {x dx C f : Addr} {mA : Str → Option Value} {name : Str} {v : Value}

end

/-! ### the attributes as a list of pairs -/
def putF (f : Str) (v : V) : List (Str × V) → List (Str × V)
  | [] => [(f, v)]
  | (g, x) :: r => if g = f then (g, v) :: r else (g, x) :: putF f v r
theorem RelO.some_of {v : V} {o : Option Value} (r : RelO (some v) o) : ∃ u, o = some u ∧ RelV v u := by
  cases o with
  | none => exact (show False from r).elim
  | some u => exact ⟨u, rfl, r⟩
theorem handed_of {v : V} {u : Value} (r : RelV v u) : PySem.W.handedIn u = true := by
  cases v with
  | non => cases (show u = Value.none from r); rfl
  | bl b => cases (show u = Value.bool b from r); rfl
  | int i => obtain ⟨t, e⟩ := (show ∃ t, u = Value.int i t from r); cases e; rfl
  | str x => obtain ⟨t, e⟩ := (show ∃ t, u = Value.str x t from r); cases e; rfl
  | byt b => obtain ⟨t, e⟩ := (show ∃ t, u = Value.bytes b t from r); cases e; rfl
  | flt b => obtain ⟨t, e⟩ := (show ∃ t, u = Value.float b t from r); cases e; rfl
  | ref a => cases (show u = Value.ref a from r); rfl
  | ty n => cases (show u = Value.type n from r); rfl

section
variable {P : Program} {w : World} {H H' : Hp} {h h' : Heap} {a C dx : Addr} {fs fs' : List (Str × V)}
end

/-! ### what of the text a class must have -/
structure Cls (K : PySem.W.Frag) (C : Addr) : Prop where
  pg : PySem.W.plainGet K C Str.empty = true
  hd : PySem.W.hasDictIn K C = true
  po : PySem.W.plainOver K C = true
  sa : PySem.W.findIn K (.ref C) "__setattr__" = some (some (.builtin "object.__setattr__"))
/-- no class of it has the name -/
def NoAttr (K : PySem.W.Frag) (C : Addr) (f : Str) : Prop := PySem.W.findIn K (.ref C) f = some none
/-- a constant of the class -/
structure Con (K : PySem.W.Frag) (C : Addr) (f : Str) (v : V) (u : Value) : Prop where
  at_ : PySem.W.findIn K (.ref C) f = some (some u)
  rel : RelV v u
  get : PySem.W.specialIn K u "__get__" = some none
  cp : PySem.W.copiedNames.contains f = false
/-- a method: a plain def of the class or of one above it -/
structure Meth (K : PySem.W.Frag) (C : Addr) (m : Str) (f : Addr) : Prop where
  at_ : PySem.W.findIn K (.ref C) m = some (some (.ref f))
  fn : PySem.W.isFn K (.ref f) = true
  kp : PySem.W.keepIn K (.ref f) = true

section
variable {X : Cx} {pins : List (Addr × Obj)} {σ : St} {H : Hp} {s : Shared} {a C dx : Addr} {fs : List (Str × V)} {f : Str} {v : V} {A : Around} {E : Value → Shared → Prop}

/-- e.f where nothing but the object is asked: through attributeBase (super) and the last hold -/
theorem attr_of {prog : Program} {w : World} {env : Env} {e : Expr} {f : Str} {pos : Pos} {s : Shared} {Q : Value → Shared → Prop} (hb : attributeBase e f env (eval e env) = eval e env)
    (h : wpAny (model prog w) A (eval e env) (fun o s₁ => wpAny (model prog w) A (getAttr o f true) Q E s₁) E s) : wpAny (model prog w) A (eval (.Attribute e f pos) env) Q E s :=
  Attribute_any_ h (by rw [arm_eval_Attribute, hb])
end

/-! ### readings and rules -/
/-- e.f, an attribute of the instance -/
def tFld (K : PySem.W.Frag) (ta : TE) (f : Str) : TE := fun σ H Q => ta σ H fun x H1 => ∃ a C dx fs v, x = .ref a ∧ H1 a = some (.ins C dx fs) ∧ Cls K C ∧ NoAttr K C f ∧ fs.lookup f = some v ∧ Q v H1
/-- e.f, a constant of the class -/
def tCon (K : PySem.W.Frag) (ta : TE) (f : Str) : TE := fun σ H Q => ta σ H fun x H1 => ∃ a C dx fs v u, x = .ref a ∧ H1 a = some (.ins C dx fs) ∧ Cls K C ∧ Con K C f v u ∧ fs.lookup f = none ∧ Q v H1
/-- e.f = value -/
def sFld (K : PySem.W.Frag) (ta tv : TE) (f : Str) : TS := fun D σ H => tv σ H fun y H1 => ta σ H1 fun x H2 => ∃ a C dx fs, x = .ref a ∧ H2 a = some (.ins C dx fs) ∧ Cls K C ∧ NoAttr K C f ∧ fs.length < 1000 ∧
  D.nx σ (upd H2 a (.ins C dx (putF f y fs)))
/-- an augmented operator on two values -/
def InOp (X : Cx) (op : Operator) (rd : V → V → Hp → VK → Prop) : Prop :=
  ∀ (pins : List (Addr × Obj)) (s : Shared) (σ : St) (H : Hp) (x y : V) (u v : Value) (Q : VK), Inv X pins σ H s → RelV x u → RelV y v → rd x y H Q → wpAny (model X.prog X.w) X.A (inplaceOp op u v) (EP X pins σ Q) X.xe s
/-- e.f op= value -/
def sFldAug (K : PySem.W.Frag) (ta tv : TE) (rd : V → V → Hp → VK → Prop) (f : Str) : TS := fun D σ H => ta σ H fun x H1 => ∃ a C dx fs v, x = .ref a ∧ H1 a = some (.ins C dx fs) ∧ Cls K C ∧ NoAttr K C f ∧ fs.lookup f = some v ∧
  tv σ H1 fun y H2 => rd v y H2 fun z H3 => ∃ dx' fs', H3 a = some (.ins C dx' fs') ∧ fs'.length < 1000 ∧ D.nx σ (upd H3 a (.ins C dx' (putF f z fs')))

section
variable {X : Cx} {o e value : Expr} {f : Str} {pos pos' tpos : Pos} {ta tv : TE}
def rAdd : V → V → Hp → VK → Prop := fun x y H Q => ∃ i j, x = .int i ∧ y = .int j ∧ Q (.int (i + j)) H
def rSub : V → V → Hp → VK → Prop := fun x y H Q => ∃ i j, x = .int i ∧ y = .int j ∧ Q (.int (i - j)) H
end

/-! ### isinstance -/
section
variable {X : Cx} {pins : List (Addr × Obj)} {σ : St} {H : Hp} {s : Shared} {A : Around} {E : Value → Shared → Prop} {Q : Value → Shared → Prop} {c : Value} {b : Bool}
/-- the type of a value, as the fragment's deciders take it; for an instance its class -/
inductive TyOf (K : PySem.W.Frag) (H : Hp) : V → Value → Prop where
  | non : TyOf K H .non (.type "NoneType")
  | bl (x : Bool) : TyOf K H (.bl x) (.type "bool")
  | int (i : Int) : TyOf K H (.int i) (.type "int")
  | str (x : Str) : TyOf K H (.str x) (.type "str")
  | flt (x : UInt64) : TyOf K H (.flt x) (.type "float")
  | lst {a : Addr} {xs : List V} (e : H a = some (.lst xs)) : TyOf K H (.ref a) (.type "list")
  | frz {a : Addr} {o : Obj} {xs : List V} (e : H a = some (.frz o (.lst xs))) : TyOf K H (.ref a) (.type "list")
  | tup {a : Addr} {xs : List V} (e : H a = some (.tup xs)) : TyOf K H (.ref a) (.type "tuple")
  | dK {a : Addr} {kvs : List (Key × V)} (e : H a = some (.dK kvs)) : TyOf K H (.ref a) (.type "dict")
  | dT {a : Addr} {kvs : List (List Key × V)} (e : H a = some (.dT kvs)) : TyOf K H (.ref a) (.type "dict")
  | ins {a C dx : Addr} {fs : List (Str × V)} (e : H a = some (.ins C dx fs)) (cl : Cls K C) (ha : PySem.W.findIn K (.ref C) "__class__" = some (some (.builtin "object.__class__")))
      (hn : PySem.W.specialIn K (.builtin "object.__class__") "__get__" = some (some (.builtin "getset_descriptor.__get__"))) (htk : PySem.W.takesIn K (.builtin "object.__class__") = some true)
      (hm : PySem.W.mroIn K C (.type "object") = some true) : TyOf K H (.ref a) (.ref C)
end
end L2

namespace L2
open PySem PySem.Spec PyProof.Rows

/-! ### room -/
structure Room (k : Nat) (A : Around) : Prop where
  hd : A.handled = none
  dp : A.depth + 3 * k + 5 < recursionLimit
  un : A.units + 16 * k + 200 < cLine
  gd : A.guards = some []
theorem Room.mono {j k : Nat} {A : Around} (r : Room k A) (h : j ≤ k) : Room j A := ⟨r.hd, by have := r.dp; omega, by have := r.un; omega, r.gd⟩
theorem Room.deeper {k : Nat} {A : Around} (r : Room (k + 1) A) (env : Env) : Room k (A.deeper env) :=
  ⟨r.hd, by have := r.dp; show A.depth + 1 + 3 * k + 5 < _; omega, by have := r.un; show A.units + 3 + 16 * k + 200 < _; omega, r.gd⟩
theorem make_depth {A : Around} {C : Addr} {us : List Value} {kw : List (Str × Value)} : (A.under (.builtin "type.__call__" ⟨.ref C :: us, kw⟩)).depth = A.depth + 1 := by
  first | rfl | simp [Around.under, Code.weight, Code.isCreation, Code.isGuard, Code.isCaller, Code.frames, Code.isFrame, guardIds]
theorem make_units {A : Around} {C : Addr} {us : List Value} {kw : List (Str × Value)} : (A.under (.builtin "type.__call__" ⟨.ref C :: us, kw⟩)).units = A.units + 1 := by
  first | rfl | simp [Around.under, Code.cUnits, Code.frames, Code.isFrame]
theorem make_guards {A : Around} {C : Addr} {us : List Value} {kw : List (Str × Value)} : (A.under (.builtin "type.__call__" ⟨.ref C :: us, kw⟩)).guards = A.guards := by
  first | rfl | (cases h : A.guards <;> simp [Around.under, Code.guards, Code.isGuard, guardIds, pushGuards, h])
theorem Room.make {k : Nat} {A : Around} (r : Room (k + 1) A) (C : Addr) (us : List Value) (kw : List (Str × Value)) : Room k (A.under (.builtin "type.__call__" ⟨.ref C :: us, kw⟩)) :=
  ⟨r.hd, by have := r.dp; rw [make_depth]; omega, by have := r.un; rw [make_units]; omega, by rw [make_guards]; exact r.gd⟩
theorem Room.depth {k : Nat} {A : Around} (r : Room k A) : A.depth < recursionLimit := by have := r.dp; omega
theorem Room.units {k : Nat} {A : Around} (r : Room k A) : A.units + 64 < cLine := by have := r.un; omega
/-! ### argument lists and displays -/
def tNil : TA := fun _ H Q => Q [] H
def tCons (ta : TE) (tr : TA) : TA := fun σ H Q => ta σ H fun x H1 => tr σ H1 fun xs H2 => Q (x :: xs) H2
section
variable {X : Cx} {e : Expr} {es : List Expr} {te : TE} {t : TA} {pos : Pos}
theorem pa_nil : PA X [] tNil := fun _ _ _ _ H Q I h => Calls.spliced_nil ⟨[], H, I, .nil, h⟩
theorem pa_cons (ha : PE X e te) (hr : PA X es t) (hs : starEach (e :: es) X.env = (false, eval e X.env) :: starEach es X.env := by rfl) : PA X (e :: es) (tCons te t) := by
  intro pos pins s σ H Q I h
  rw [hs]
  show wpAny _ _ (spliced ((false, eval e X.env) :: backTo pos (starEach es X.env))) _ _ s
  refine Calls.spliced_cons (thn (ha pins s σ H _ I h) fun u s1 ⟨x, H1, I1, r1, q1⟩ => ?_)
  exact thn (hr pos pins s1 σ H1 _ I1 q1) fun us s2 ⟨xs, H2, I2, r2, q2⟩ => ⟨x :: xs, H2, I2, .cons r1 r2, q2⟩

/-- a tuple, a list of written items -/
def tTup (t : TA) : TE := fun σ H Q => t σ H fun xs H1 => xs.length ≤ sizeLine ∧ ∀ p, H1 p = none → Q (.ref p) (upd H1 p (.tup xs))
def tLst (t : TA) : TE := fun σ H Q => t σ H fun xs H1 => xs.length ≤ sizeLine ∧ ∀ p, H1 p = none → Q (.ref p) (upd H1 p (.lst xs))
theorem pe_tup {x1} (h : PA X es t) : PE X (.Tuple es x1 pos) (tTup t) := by
  intro pins s σ H Q I hq
  refine wpAny_Tuple_spliced (thn (h pos pins s σ H _ I hq) fun us s1 ⟨xs, H1, I1, r, z, q⟩ => ⟨by rw [← r.length]; exact z, ?_⟩)
  have hf : H1 s1.heap.objs.size = none := I1.hok.fresh (Nat.le_refl _)
  refine ⟨.ref s1.heap.objs.size, upd H1 s1.heap.objs.size (.tup xs), I1.laid (t' := s1.toks) (fun b u e => Heap.get?_push_of_some _ e) (Nat.le_refl _) ?_, rfl, q _ hf⟩
  exact ⟨⟨z, _, Heap.get?_push_size _ rfl, rfl⟩, us, r, ⟨_, Heap.get?_push_size _ rfl, rfl, _, rfl⟩⟩
theorem pe_lst (h : PA X es t) : PE X (.List es pos) (tLst t) := by
  intro pins s σ H Q I hq
  refine wpAny_List_spliced (thn (h pos pins s σ H _ I hq) fun us s1 ⟨xs, H1, I1, r, z, q⟩ => ⟨by rw [← r.length]; exact z, ?_⟩)
  have hf : H1 s1.heap.objs.size = none := I1.hok.fresh (Nat.le_refl _)
  refine ⟨.ref s1.heap.objs.size, upd H1 s1.heap.objs.size (.lst xs), I1.laid (t' := s1.toks) (fun b u e => Heap.get?_push_of_some _ e) (Nat.le_refl _) ?_, rfl, q _ hf⟩
  exact ⟨z, us, 0, r, Heap.get?_push_size _ rfl⟩
end

/-! ### what a def promises -/
/-- a def's promise: the bound arguments in the parameters' order, the heap, the wanted end, the wanted exception -/
abbrev Sp := List V → Hp → VK → XK → Prop
/-- how an exception lies behind a call (file 08 gives it): the callers' frames, abstract heap and state ahead of the call, the wish, the exception, the state -/
abbrev CXT := List Env → Hp → Shared → XK → Value → Shared → Prop

/-- the state at a call -/
structure Env0 (P : Program) (w : World) (K : PySem.W.Frag) (mg : Str → Option Value) (base : Heap) (A : Around) (outer : List Env) (s : Shared) (H : Hp) : Prop where
  frames : A.frames = some outer
  mod : Mod K mg base
  bs : ∀ b o, base.get? b = some o → s.heap.get? b = some o ∧ H b = none
  bsz : base.objs.size ≤ s.heap.objs.size
  funs : s.heap.FunFrames base outer
  frf : ∀ b ∈ frs outer, H b = none
  hok : HOk P w H s.heap
  bare : AllBare s.gens
/-- a call's end -/
def CE (outer : List Env) (P : Program) (w : World) (H : Hp) (s : Shared) (Q : VK) (u : Value) (s' : Shared) : Prop :=
  ∃ v H', s'.os = s.os ∧ AllBare s'.gens ∧ Un (frs outer) [] H H' s.heap s'.heap ∧ HOk P w H' s'.heap ∧ RelV v u ∧ Q v H'
def CR (CX : CXT) (outer : List Env) (P : Program) (w : World) (H : Hp) (s : Shared) (Q : VK) (E : XK) (r : Result) (s' : Shared) : Prop :=
  match r with
  | .ok (.ret u) => CE outer P w H s Q u s'
  | .ok _ => False
  | .error e => CX outer H s E e s'
structure FnOk (P : Program) (w : World) (K : PySem.W.Frag) (mg : Str → Option Value) (base : Heap) (CX : CXT) (k : Nat) (f : Addr) (fd : FuncData) (ps : List Str) (sp : Sp) : Prop where
  len : ∀ vs H Q E, sp vs H Q E → vs.length = ps.length
  run : ∀ (A : Around) (outer : List Env) (s : Shared) (H : Hp) (args : Args) (us : List Value) (vs : List V) (Q : VK) (E : XK), Room k A → Env0 P w K mg base A outer s H → BindsTo s fd args (ps.zip us) → Vals vs us → sp vs H Q E →
    codeAny (model P w) A (.call (.ref f) args) (CR CX outer P w H s Q E) s
theorem FnOk.mono {P : Program} {w : World} {K : PySem.W.Frag} {mg : Str → Option Value} {base : Heap} {CX : CXT} {j k : Nat} {f : Addr} {fd : FuncData} {ps : List Str} {sp : Sp} (F : FnOk P w K mg base CX j f fd ps sp) (h : j ≤ k) :
    FnOk P w K mg base CX k f fd ps sp := ⟨F.len, fun A outer s H args us vs Q E hr => F.run A outer s H args us vs Q E (hr.mono h)⟩
theorem Env0.make {P : Program} {w : World} {K : PySem.W.Frag} {mg : Str → Option Value} {base : Heap} {A : Around} {outer : List Env} {s : Shared} {H : Hp} (e : Env0 P w K mg base A outer s H) (C : Addr) (us : List Value) (kw : List (Str × Value)) :
    Env0 P w K mg base (A.under (.builtin "type.__call__" ⟨.ref C :: us, kw⟩)) outer s H := ⟨by first | exact e.frames | (simpa [Around.under, Code.envs, Code.isFrame, pushEnvs] using e.frames), e.mod, e.bs, e.bsz, e.funs, e.frf, e.hok, e.bare⟩
section
variable {X : Cx} {pins : List (Addr × Obj)} {σ : St} {H : Hp} {s s' : Shared}
/-- from a body: what a callee wants -/
theorem Inv.env0 (I : Inv X pins σ H s) : Env0 X.prog X.w X.K X.mg X.base X.A X.stack s H :=
  ⟨I.ok.frames, I.ok.mod, I.bs, Nat.le_trans I.ok.bsz I.sz, I.stack, I.stkFree, I.hok, I.bare⟩
/-- behind a call -/
theorem Inv.after {Q : VK} {u : Value} (I : Inv X pins σ H s) (h : CE X.stack X.prog X.w H s Q u s') : EP X pins σ Q u s' := by
  obtain ⟨v, H', os, bare, un, hok, r, q⟩ := h
  obtain ⟨hh, g, d, t, os'⟩ := s'
  obtain rfl : os' = s.os := os
  exact ⟨v, H', I.call (h' := hh) (g' := g) (d' := d) (t' := t) (ch := []) un hok bare (fun b z => absurd z (by simp)), r, q⟩
end

/-! ### calls -/
/-- f(..): the written arguments, then the defaults dvs; E: what is wanted of an exception -/
def tCall (sp : Sp) (dvs : List V) (E : XK) (t : TA) : TE := fun σ H Q => t σ H fun vs H1 => sp (vs ++ dvs) H1 Q E
/-- o.m(..) of an instance of the class at C -/
def tMeth (C : Addr) (m : Str) (sp : Sp) (dvs : List V) (E : XK) (ta : TE) (t : TA) : TE := fun σ H Q => ta σ H fun x H1 => ∃ a dx fs, x = .ref a ∧ H1 a = some (.ins C dx fs) ∧ fs.lookup m = none ∧
  t σ H1 fun vs H2 => sp (x :: (vs ++ dvs)) H2 Q E
/-- C(..): a new instance and its dict, then __init__ -/
def tMake (C : Addr) (sp : Sp) (dvs : List V) (E : XK) (t : TA) : TE := fun σ H Q => t σ H fun vs H1 => ∀ x dx, H1 x = none → H1 dx = none → dx ≠ x →
  sp (.ref x :: (vs ++ dvs)) (upd (upd H1 dx (.own x)) x (.ins C dx [])) (fun v H2 => v = .non ∧ Q (.ref x) H2) E

/-- how the parameters are bound: us the positional arguments, kw the keywords' values by name, ds the defaults that fill up -/
def Binds (K : PySem.W.Frag) (fd : FuncData) (ps : List Str) (ds : List Value) : Prop :=
  ∀ (s : Shared) (us : List Value), K.In s.heap → (us ++ ds).length = ps.length → BindsTo s fd ⟨us, []⟩ (ps.zip (us ++ ds))
/-- every parameter is given -/
theorem Binds.all {K : PySem.W.Frag} {fd : FuncData} {ps : List Str} (h : ∀ us : List Value, us.length = ps.length → bindArgs fd ⟨us, []⟩ = pure (ps.zip us)) : Binds K fd ps [] := fun s us _ hl => by
  rw [List.append_nil] at hl ⊢
  exact .of_eq (h us hl)

/-- an exception of a callee reaches what this body wants of exceptions -/
def Passes (CX : CXT) (X : Cx) (E : XK) : Prop := ∀ (pins : List (Addr × Obj)) (σ : St) (H : Hp) (s : Shared) (e : Value) (s' : Shared), Inv X pins σ H s → CX X.stack H s E e s' → X.xe e s'

section
variable {X : Cx} {CX : CXT} {k : Nat} {f C : Addr} {fd : FuncData} {ps : List Str} {sp : Sp} {dvs : List V} {ds : List Value} {E : XK} {x m : Str} {p pos apos : Pos} {e o : Expr} {es : List Expr} {ta : TE} {t : TA}

/-- the callee runs -/
theorem run_fn {pins : List (Addr × Obj)} {σ : St} {H : Hp} {s : Shared} {Q : VK} {us : List Value} {vs : List V} (F : FnOk X.prog X.w X.K X.mg X.base CX k f fd ps sp) (hr : Room k X.A) (hb : Binds X.K fd ps ds) (hd : Vals dvs ds) (hx : Passes CX X E)
    (I : Inv X pins σ H s) (r : Vals vs us) (h : sp (vs ++ dvs) H Q E) : wpAny (model X.prog X.w) X.A (call (.ref f) us) (EP X pins σ Q) X.xe s := by
  have r2 : Vals (vs ++ dvs) (us ++ ds) := r.append hd
  have hl : (us ++ ds).length = ps.length := by rw [← r2.length]; exact F.len _ _ _ _ h
  refine wpAny_call (codeAny_mono (F.run X.A X.stack s H ⟨us, []⟩ (us ++ ds) (vs ++ dvs) Q E hr I.env0 (hb s us I.kIn hl) r2 h) fun r s' hq => ?_)
  cases r with
  | error e => exact hx pins σ H s e s' I hq
  | ok fl =>
    cases fl with
    | ret u => exact I.after hq
    | next => exact False.elim hq
    | brk => exact False.elim hq
    | cont => exact False.elim hq

theorem pe_call (F : FnOk X.prog X.w X.K X.mg X.base CX k f fd ps sp) (hr : Room k X.A) (hg : Gl X x) (hm : X.mg x = some (.ref f)) (hk : PySem.W.keepIn X.K (.ref f) = true) (hb : Binds X.K fd ps ds) (hd : Vals dvs ds) (hx : Passes CX X E)
    (ha : PA X (e :: es) t) (hdb : (x == ("__debug__" : Str)) = false := by decide) (he : starEach (e :: es) X.env = (false, eval e X.env) :: starEach es X.env := by rfl) (hpl : (backTo pos (starEach es X.env)).any (·.1) = false := by rfl) :
    PE X (.Call (.Name x p) (e :: es) [] pos) (tCall sp dvs E t) := by
  intro pins s σ H Q I h
  refine wpAny_Call_Name_kw (ld_glob I hg hm ?_ hdb)
  refine PySem.W.callWith_K (h₀ := X.base) I.ok.mod.kin hk (thn (ha pos pins s σ H _ I h) fun us s1 ⟨vs, H1, I1, r, q⟩ => ⟨I1.kIn, ?_⟩) he hpl
  exact run_fn F hr hb hd hx I1 r q
/-- what a class must have to be made -/
structure Mk (K : PySem.W.Frag) (C f : Addr) : Prop where
  makes : PySem.W.makesIn K C = true
  init : PySem.W.findIn K (.ref C) "__init__" = some (some (.ref f))
  fn : PySem.W.isFn K (.ref f) = true
  kp : PySem.W.keepIn K (.ref C) = true

end

/-! ### keywords -/
/-- the values of the keywords, from the left -/
def PK (X : Cx) (kws : List Keyword) (t : TA) : Prop :=
  ∀ (pos : Pos) (pins : List (Addr × Obj)) (s : Shared) (σ : St) (H : Hp) (Q : List V → Hp → Prop), Inv X pins σ H s → t σ H Q → wpAny (model X.prog X.w) X.A (evalAll ((backToKw pos (keywordEach kws X.env)).map (·.2))) (AP X pins σ Q) X.xe s
section
variable {X : Cx} {CX : CXT} {k : Nat} {f C : Addr} {fd : FuncData} {ps ks : List Str} {sp : Sp} {E : XK} {x m : Str} {p pos apos kpos : Pos} {e o : Expr} {es : List Expr} {kws : List Keyword} {te ta : TE} {t tk : TA} {nm : Option Str}
/-- how a call with keywords binds: g puts the positional values us and the keywords' values ws (names ks) in the parameters' order, defaults among them -/
structure KBinds (K : PySem.W.Frag) (fd : FuncData) (ps ks : List Str) (g : List Value → List Value → List Value) (gV : List V → List V → List V) : Prop where
  to : ∀ (s : Shared) (us ws : List Value), K.In s.heap → (g us ws).length = ps.length → BindsTo s fd ⟨us, ks.zip ws⟩ (ps.zip (g us ws))
  rel : ∀ {vs : List V} {us : List Value} {zs : List V} {ws : List Value}, Vals vs us → Vals zs ws → Vals (gV vs zs) (g us ws)
def tCallK (sp : Sp) (gV : List V → List V → List V) (E : XK) (t tk : TA) : TE := fun σ H Q => t σ H fun vs H1 => tk σ H1 fun zs H2 => sp (gV vs zs) H2 Q E
variable {g : List Value → List Value → List Value} {gV : List V → List V → List V}
end

/-! ### a def's body keeps its promise -/
/-- names: the parameters first -/
structure FnScope (N P : List Str) (sc : Scope) : Prop where
  kind : sc.kind = .function
  co : sc.isCoroutine = false
  gen : sc.isGenerator = false
  nd : N.Nodup
  pre : N.take P.length = P
  par : ∀ x ∈ P, sc.names.lookup x = some .local ∨ sc.names.lookup x = some .cell
  nofree : ∀ y ∈ sc.names, y.2 ≠ .free

theorem bindL_out {kindOf : Str → Option NameKind} {x : Str} : ∀ {binds : List (Str × Value)} {m : Str → Option Value}, (∀ v, (x, v) ∉ binds) → bindL kindOf binds m x = m x
  | [], _, _ => rfl
  | (n, v) :: r, m, h => by
    unfold bindL
    rw [bindL_out fun w hw => h w (List.mem_cons_of_mem _ hw)]
    split
    · have : x ≠ n := by rintro rfl; exact h v List.mem_cons_self
      simp [this]
    · rfl
theorem bindC_out {kindOf : Str → Option NameKind} {x : Str} : ∀ {binds : List (Str × Value)} {m : Str → Option Value}, (∀ v, (x, v) ∉ binds) → bindC kindOf binds m x = m x
  | [], _, _ => rfl
  | (n, v) :: r, m, h => by
    unfold bindC
    rw [bindC_out fun w hw => h w (List.mem_cons_of_mem _ hw)]
    split
    · rfl
    · have : x ≠ n := by rintro rfl; exact h v List.mem_cons_self
      simp [this]
theorem bindL_get {kindOf : Str → Option NameKind} {x : Str} {v : Value} : ∀ {P : List Str} {vs : List Value} {i : Nat} {m : Str → Option Value}, P.Nodup → P[i]? = some x → vs[i]? = some v → kindOf x = some .local →
    bindL kindOf (P.zip vs) m x = some v
  | [], _, _, _, _, h, _, _ => by simp at h
  | _ :: _, [], _, _, _, _, h, _ => by simp at h
  | p :: P, w :: vs, 0, m, nd, h1, h2, hk => by
    simp at h1 h2; subst h1; subst h2
    show bindL kindOf ((p, w) :: P.zip vs) m p = _
    unfold bindL
    rw [bindL_out fun v hv => (List.nodup_cons.mp nd).1 (List.of_mem_zip hv).1, if_pos hk]
    simp
  | p :: P, w :: vs, i + 1, m, nd, h1, h2, hk => by
    show bindL kindOf ((p, w) :: P.zip vs) m x = _
    unfold bindL
    exact bindL_get (i := i) (List.nodup_cons.mp nd).2 (by simpa using h1) (by simpa using h2) hk
theorem bindC_get {kindOf : Str → Option NameKind} {x : Str} {v : Value} : ∀ {P : List Str} {vs : List Value} {i : Nat} {m : Str → Option Value}, P.Nodup → P[i]? = some x → vs[i]? = some v → kindOf x ≠ some .local →
    bindC kindOf (P.zip vs) m x = some v
  | [], _, _, _, _, h, _, _ => by simp at h
  | _ :: _, [], _, _, _, _, h, _ => by simp at h
  | p :: P, w :: vs, 0, m, nd, h1, h2, hk => by
    simp at h1 h2; subst h1; subst h2
    show bindC kindOf ((p, w) :: P.zip vs) m p = _
    unfold bindC
    rw [bindC_out fun v hv => (List.nodup_cons.mp nd).1 (List.of_mem_zip hv).1, if_neg hk]
    simp
  | p :: P, w :: vs, i + 1, m, nd, h1, h2, hk => by
    show bindC kindOf ((p, w) :: P.zip vs) m x = _
    unfold bindC
    exact bindC_get (i := i) (List.nodup_cons.mp nd).2 (by simpa using h1) (by simpa using h2) hk

/-- the names' values at the entry -/
def start (N : List Str) (vs : List V) : St := vs.map some ++ List.replicate (N.length - vs.length) none

/-- the context of a def's body, at its entry; an exception leaves the frame, then lies as CX says -/
def cxOf (CX : CXT) (P : Program) (w : World) (K : PySem.W.Frag) (mg : Str → Option Value) (base : Heap) (N : List Str) (qual : Str) (scope : Scope) (f : Addr) (cd : Value) (A : Around) (outer : List Env) (s : Shared) (H : Hp) (E : XK) : Cx where
  prog := P
  w := w
  K := K
  mg := mg
  base := base
  A := A.deeper (envOfC qual scope s.heap.objs.size f cd)
  N := N
  s₀ := s
  H₀ := H
  env := envOfC qual scope s.heap.objs.size f cd
  outer := outer
  stack := envOfC qual scope s.heap.objs.size f cd :: outer
  ex := []
  calm := true
  fn := fun _ => true
  pn := []
  xe := fun e s' => wpAny (model P w) (A.deeper (envOfC qual scope s.heap.objs.size f cd)) (leaving (envOfC qual scope s.heap.objs.size f cd) e) (fun _ s'' => CX outer H s E e s'') (fun e' s'' => CX outer H s E e' s'') s'

theorem cell_has {sc : Scope} {n : Nat} {x : Str} (h : sc.names.lookup x = some .cell) : ∃ c, (cellsFrom n sc.names []).lookup x = some c := by
  have q := PySem.W.cellsFrom_some sc.names n [] (.inl h)
  exact Option.isSome_iff_exists.mp q

theorem inv_start {CX : CXT} {P : Program} {w : World} {K : PySem.W.Frag} {mg : Str → Option Value} {base : Heap} {N ps : List Str} {qual : Str} {scope : Scope} {f : Addr} {cd : Value} {A : Around} {outer : List Env} {s s1 : Shared} {H : Hp} {E : XK} {us : List Value} {vs : List V}
    (S : FnScope N ps scope) (hd : A.handled = none) (e0 : Env0 P w K mg base A outer s H) (hl : vs.length = ps.length) (r : Vals vs us)
    (x : InCallC s s.heap.objs.size (bindL (envOfC qual scope s.heap.objs.size f cd).kindOf (ps.zip us) fun _ => none) (cellsFrom (s.heap.objs.size + 1) scope.names []) (bindC (envOfC qual scope s.heap.objs.size f cd).kindOf (ps.zip us) fun _ => none) s1) :
    Inv (cxOf CX P w K mg base N qual scope f cd A outer s H E) [] (start N vs) H s1 := by
  have hpl : ps.length ≤ N.length := by have := congrArg List.length S.pre; rw [List.length_take] at this; omega
  obtain ⟨h1, tk, rfl, hk⟩ := x.done
  have noA : ∀ b : Addr, b ∉ (cxOf CX P w K mg base N qual scope f cd A outer s H E).ex := fun b z => absurd (show b ∈ ([] : List Addr) from z) (by simp)
  refine ⟨⟨e0.mod, S.kind, rfl, rfl, Nat.le_refl _, fun y z c h1 h2 => ?_, fun y hy => ?_, fun y c _ h => ?_, fun _ => hd, Around.frames_deeper e0.frames, .inr ⟨rfl, rfl⟩, fun b z => absurd z (noA b), e0.bs, e0.bsz, fun b _ _ => noA b, fun b z => absurd z (noA b), e0.funs, e0.frf⟩,
    rfl, e0.bare, Un.kept hk, ⟨_, x.toInCall.ns, fun i y v h1 h2 h3 => ?_⟩, fun y c h => ⟨_, x.cell y c h⟩, e0.hok.fresh (Nat.le_refl _), fun y c h => ?_, fun p hp => absurd (show p ∈ ([] : List (Addr × Obj)) from hp) (by simp), e0.hok.kept hk, ?_⟩
  · exact name_of_addr x.apart (PySem.mem_of_lookup h1) (PySem.mem_of_lookup h2)
  · have hy : scope.names.lookup y = some .cell ∨ scope.names.lookup y = some .free := hy
    rcases hy with hy | hy
    · exact cell_has hy
    · exact absurd rfl (S.nofree _ (PySem.mem_of_lookup hy))
  · exact Nat.le_of_lt (x.above y c (PySem.mem_of_lookup h))
  · have hi : i < vs.length := by
      unfold start at h2
      by_cases hi : i < vs.length
      · exact hi
      · rw [List.getElem?_append_right (by simpa using hi)] at h2
        rw [List.getElem?_replicate] at h2
        split at h2 <;> cases h2
    have ha : vs[i]? = some v := by
      unfold start at h2
      rw [List.getElem?_append_left (by simpa using hi), List.getElem?_map] at h2
      cases e : vs[i]? with
      | none => rw [e] at h2; cases h2
      | some a => rw [e] at h2; cases h2; rfl
    obtain ⟨u, hu, rv⟩ := r.get ha
    have hp : ps[i]? = some y := by
      rw [← S.pre, List.getElem?_take_of_lt (by omega)]; exact h1
    have ndP : ps.Nodup := by rw [← S.pre]; exact S.nd.sublist (List.take_sublist _ _)
    refine ⟨u, rv, ?_⟩
    rcases S.par y (List.mem_of_getElem? hp) with k | k
    · exact .inl ⟨k, bindL_get ndP hp hu k⟩
    · obtain ⟨c, e⟩ := cell_has (n := s.heap.objs.size + 1) k
      refine .inr ⟨.inl k, c, e, ?_⟩
      have q := x.cell y c e
      rw [bindC_get ndP hp hu (by show scope.names.lookup y ≠ _; rw [k]; decide)] at q
      exact q
  · exact e0.hok.fresh (Nat.le_of_lt (x.above y c (PySem.mem_of_lookup h)))
  · unfold start
    show _ = N.length
    rw [List.length_append, List.length_map, List.length_replicate]
    omega

/-- THE RULE: a def (or a method) of the text, by its body. The body's reading t is chosen for each entry; it is run at the parameters' values -/
theorem fn_of {CX : CXT} {P : Program} {w : World} {K : PySem.W.Frag} {mg : Str → Option Value} {base : Heap} {k : Nat} {f : Addr} {name qual : Str} {params : Arguments} {body : List Stmt} {scope : Scope} {dV kV doc pm cdv ct oc : Value} {an od : Option Addr}
    {osl : Array (Option Value)} {N ps : List Str} {sp : Sp} (lk : K.lookup f = some ⟨oc, od, .func (PySem.W.fnOf name qual params body scope dV kV doc pm an cdv ct), osl⟩) (hcd : PySem.W.codeIn K cdv qual = true) (S : FnScope N ps scope)
    (len : ∀ vs H Q E, sp vs H Q E → vs.length = ps.length)
    (hbody : ∀ (A : Around) (outer : List Env) (s : Shared) (H : Hp) (vs : List V) (Q : VK) (E : XK), Room k (A.deeper (envOfC qual scope s.heap.objs.size f cdv)) → sp vs H Q E →
      ∃ t, PSs (cxOf CX P w K mg base N qual scope f cdv A outer s H E) body t ∧ t { nx := fun _ H' => Q .non H', rt := Q } (start N vs) H) :
    FnOk P w K mg base CX (k + 1) f (PySem.W.fnOf name qual params body scope dV kV doc pm an cdv ct) ps sp := by
  refine ⟨len, fun A outer s H args us vs Q E hr e0 hb r hsp => ?_⟩
  have hl := len _ _ _ _ hsp
  have KX : K.In s.heap := e0.mod.kin.keeps fun b o e => (e0.bs b o e).1
  have lim : s.heap.NoLimit := e0.mod.nolimit.keeps fun b o e => (e0.bs b o e).1
  have hkind : ∀ y ∈ ps.zip us, scope.names.lookup y.1 = some .local ∨ (scope.names.lookup y.1 = some .cell ∧ ((cellsFrom (s.heap.objs.size + 1) scope.names []).lookup y.1).isSome = true) := fun ⟨n, v⟩ hy => by
    rcases S.par n (List.of_mem_zip hy).1 with q | q
    · exact .inl q
    · exact .inr ⟨q, PySem.W.cellsFrom_some _ _ _ (.inl q)⟩
  refine codeAny_call_function hr.depth (KX _ _ lk) rfl S.co S.gen rfl (PySem.W.codeRec_of KX hcd) (hb _ _ _ _ ?_)
  refine wpAny_newFunctionEnv_cells S.kind hkind fun env he s1 x => ?_
  subst he
  refine ⟨lim.keeps x.toInCall.keep, codeAny_func ?_⟩
  obtain ⟨t, ht, hq⟩ := hbody A outer s H vs Q E (hr.deeper _) hsp
  have I : Inv (cxOf CX P w K mg base N qual scope f cdv A outer s H E) [] (start N vs) H s1 := inv_start S hr.hd e0 hl r x
  refine wpAny_mono (ht [] s1 (start N vs) H _ I hq) (fun fl s' hs => ?_) fun e s' hs => hs
  have fin : ∀ {σ' : St} {H' : Hp} {v : V} {u : Value}, Inv (cxOf CX P w K mg base N qual scope f cdv A outer s H E) [] σ' H' s' → RelV v u → Q v H' → CE outer P w H s Q u s' :=
    fun {σ' H' v u} J rv q => ⟨v, H', J.os, J.bare, J.base, J.hok, rv, q⟩
  cases fl with
  | ret u =>
    obtain ⟨v, σ', H', J, rv, q⟩ := hs
    exact fin J rv q
  | next =>
    obtain ⟨σ', H', J, q⟩ := hs
    exact fin (v := V.non) (u := Value.none) J rfl q
  | brk =>
    obtain ⟨_, _, _, q⟩ := hs
    exact False.elim q
  | cont =>
    obtain ⟨_, _, _, q⟩ := hs
    exact False.elim q
end L2

namespace L2
open PySem PySem.Spec PyProof.Rows
section
variable {X : Cx} {x : Str} {p pos : Pos} {e : Expr} {es : List Expr} {t : TA} {id T : String} {r : List V → Hp → VK → Prop}

def tCB (r : List V → Hp → VK → Prop) (t : TA) : TE := fun σ H Q => t σ H fun vs H1 => r vs H1 Q
/-- f(e, ..), f a built-in function -/
theorem pe_callB (hc : CallR X (.builtin id) r) (hg : Gl X x) (hm : X.mg x = none) (hv : bootBuiltins x = some (.builtin id)) (ha : PA X (e :: es) t) (hn : x ≠ "__name__" := by decide) (hdb : (x == ("__debug__" : Str)) = false := by decide)
    (he : starEach (e :: es) X.env = (false, eval e X.env) :: starEach es X.env := by rfl) (hpl : (backTo pos (starEach es X.env)).any (·.1) = false := by rfl) : PE X (.Call (.Name x p) (e :: es) [] pos) (tCB r t) := by
  intro pins s σ H Q I h
  refine wpAny_Call_Name_kw (ld_blt I hg hm hv ?_ hn hdb)
  exact PyProof.Rows.callWith_builtin1 (thn (ha pos pins s σ H _ I h) fun us s1 ⟨vs, H1, I1, r1, q1⟩ => hc pins s1 σ H1 vs us Q I1 r1 q1) he hpl
/-- T(e, ..), T a built-in type -/
theorem pe_callTy (hc : CallR X (.type T) r) (hg : Gl X x) (hm : X.mg x = none) (hv : bootBuiltins x = some (.type T)) (ha : PA X (e :: es) t) (hn : x ≠ "__name__" := by decide) (hdb : (x == ("__debug__" : Str)) = false := by decide)
    (he : starEach (e :: es) X.env = (false, eval e X.env) :: starEach es X.env := by rfl) (hpl : (backTo pos (starEach es X.env)).any (·.1) = false := by rfl) : PE X (.Call (.Name x p) (e :: es) [] pos) (tCB r t) := by
  intro pins s σ H Q I h
  refine wpAny_Call_Name_kw (ld_blt I hg hm hv ?_ hn hdb)
  exact PyProof.Rows.callWith_type1 (thn (ha pos pins s σ H _ I h) fun us s1 ⟨vs, H1, I1, r1, q1⟩ => hc pins s1 σ H1 vs us Q I1 r1 q1) he hpl
end
end L2

namespace HT
open PySem PyProof.Rows

/-- t < u of tuples of ints -/
def lexLt : List Int → List Int → Bool
  | [], [] => false
  | [], _ :: _ => true
  | _ :: _, [] => false
  | x :: xs, y :: ys => if x = y then lexLt xs ys else decide (x < y)
section
open PySem.SeqAt
open PySem.AutoSeq1 (wpAny_loadPart')
open PySem.MeetsSeq PySem.MeetsSeq2 PySem.MeetsSeq3

end

section
variable {prog : Program} {w : World} {A : Around} {E : Value → Shared → Prop} {s : Shared}

/-! ### t[a:b], not the whole -/
/-- a slice's bound as a place among n (d where it is left out) -/
def sIx (n d : Nat) : Option Int → Nat
  | none => d
  | some v => if v < 0 then (v + (n : Int)).toNat else min v.toNat n
end
end HT

namespace L2
open PySem PySem.Spec PyProof.Rows

/-! ### the parts of a slice -/
abbrev TO := St → Hp → (Option Int → Hp → Prop) → Prop
/-- a slice's part (left out, or an int) -/
def PO (X : Cx) (e : Option Expr) (t : TO) : Prop :=
  ∀ (pins : List (Addr × Obj)) (s : Shared) (σ : St) (H : Hp) (Q : Option Int → Hp → Prop), Inv X pins σ H s → t σ H Q →
    wpAny (model X.prog X.w) X.A (evalPart e X.env) (fun u s' => ∃ o H', Inv X pins σ H' s' ∧ IsPart u o ∧ Q o H') X.xe s
def tNoPart : TO := fun _ H Q => Q none H
def tPart (t : TE) : TO := fun σ H Q => t σ H fun x H1 => ∃ i, x = .int i ∧ Q (some i) H1

section
variable {X : Cx} {e : Expr} {te : TE} {lo hi : Option Expr} {tl th : TO} {pos p2 : Pos}

theorem po_some (h : PE X e te) : PO X (some e) (tPart te) := by
  intro pins s σ H Q I hw
  rw [evalPart_some]
  refine thn (h pins s σ H _ I hw) fun u s1 ⟨x, H1, I1, r1, q1⟩ => ?_
  obtain ⟨i, rfl, q⟩ := q1
  obtain ⟨t, rfl⟩ := r1
  exact ⟨some i, H1, I1, .int i t, q⟩

/-- what a slice of a value is, by values: the slice object stands at sl -/
def SlR (X : Cx) (r : V → Option Int → Option Int → Hp → VK → Prop) : Prop :=
  ∀ (pins : List (Addr × Obj)) (s : Shared) (σ : St) (H : Hp) (x : V) (v vl vu : Value) (lo hi : Option Int) (sl : Addr) (Q : VK), Inv X pins σ H s → RelV x v → s.heap.IsSliceOf sl vl vu .none → IsPart vl lo → IsPart vu hi → r x lo hi H Q →
    ∃ T id, typeLookup (.type T) "__getitem__" = pure (some (.builtin id)) ∧ s.TypeIs v T ∧ wpAny (model X.prog X.w) X.A (getItem v (.ref sl)) (EP X pins σ Q) X.xe s
def tSl (r : V → Option Int → Option Int → Hp → VK → Prop) (te : TE) (tl th : TO) : TE := fun σ H Q => te σ H fun x H1 => tl σ H1 fun l H2 => th σ H2 fun u H3 => r x l u H3 Q
/-- a[lo:hi], any a -/
theorem pe_slice {r : V → Option Int → Option Int → Hp → VK → Prop} (hr : SlR X r) (he : PE X e te) (hl : PO X lo tl) (hu : PO X hi th) : PE X (.Subscript e (.Slice lo hi none p2) pos) (tSl r te tl th) := by
  intro pins s σ H Q I h
  refine Subscript_ (thn (he pins s σ H _ I h) fun v s1 ⟨x, H1, I1, r1, q1⟩ => ?_)
  refine wpAny_Slice (thn (hl pins s1 σ H1 _ I1 q1) fun vl s2 ⟨l, H2, I2, pl, q2⟩ => thn (hu pins s2 σ H2 _ I2 q2) fun vu s3 ⟨u, H3, I3, pu, q3⟩ => ?_)
  rw [evalPart_none]
  refine wpAny_pure ?_
  have I4 : Inv X pins σ H3 { s3 with heap := s3.heap.push { cls := .type "slice", data := .fields #[vl, vu, .none] } } := I3.kept (t' := s3.toks) fun b ob q => Heap.get?_push_of_some _ q
  obtain ⟨T, id, hT, ht, hg⟩ := hr pins { s3 with heap := s3.heap.push { cls := .type "slice", data := .fields #[vl, vu, .none] } } σ H3 x v vl vu l u s3.heap.objs.size Q I4 r1 (Heap.IsSliceOf.new ..) pl pu q3
  show wpAny (model X.prog X.w) X.A (subscriptTail e (.Slice lo hi none p2) v (.ref s3.heap.objs.size)) (EP X pins σ Q) X.xe { s3 with heap := s3.heap.push { cls := .type "slice", data := .fields #[vl, vu, .none] } }
  exact tail_any (ops := [.ref s3.heap.objs.size, v]) ht hT hg (by with_unfolding_all rfl)

/-- the items of xs[lo:hi] -/
def cutV (xs : List V) (lo hi : Option Int) : List V := (xs.drop (HT.sIx xs.length 0 lo)).take (HT.sIx xs.length xs.length hi - HT.sIx xs.length 0 lo)
theorem cutV_length (xs : List V) (lo hi : Option Int) : (cutV xs lo hi).length ≤ xs.length := by
  unfold cutV
  rw [List.length_take, List.length_drop]
  omega
/-- t[lo:hi], not the whole of it (the whole would be t itself) -/
def rSlT (K : PySem.W.Frag) : V → Option Int → Option Int → Hp → VK → Prop := fun x lo hi H Q => ∃ a xs, x = .ref a ∧ SqT K H a xs ∧
  ¬ (HT.sIx xs.length 0 lo = 0 ∧ HT.sIx xs.length xs.length hi = xs.length) ∧ ∀ p, H p = none → Q (.ref p) (upd H p (.tup (cutV xs lo hi)))
/-! ### t < u, t + u -/
def rLtT (K : PySem.W.Frag) : R2 := fun x y H Q => ∃ a b ns ms, x = .ref a ∧ y = .ref b ∧ SqT K H a (ns.map V.int) ∧ SqT K H b (ms.map V.int) ∧ Q (.bl (HT.lexLt ns ms)) H
/-- t + u, t not empty: u empty gives t itself -/
def rCatT (K : PySem.W.Frag) : R2 := fun x y H Q => ∃ a b xs ys, x = .ref a ∧ y = .ref b ∧ SqT K H a xs ∧ SqT K H b ys ∧ xs ≠ [] ∧ xs.length + ys.length ≤ sizeLine ∧
  (ys = [] → Q (.ref a) H) ∧ (ys ≠ [] → ∀ p, H p = none → Q (.ref p) (upd H p (.tup (xs ++ ys))))
end
end L2

namespace L2
open PySem PySem.Spec PyProof.Rows

/-! ### places -/
/-- the place that an index of any sign means -/
def ixN (n : Nat) (i : Int) : Option Nat := if 0 ≤ i then (if i < n then some i.toNat else none) else if -(n : Int) ≤ i then some (i + n).toNat else none
def atI {α : Type} (xs : List α) (i : Int) : Option α := (ixN xs.length i).bind fun j => xs[j]?
theorem ixN_seq {n : Nat} {i : Int} {j : Nat} (h : ixN n i = some j) : seqIndex? i n = some j ∧ j < n ∧ -(n : Int) ≤ i ∧ i < n := by
  unfold ixN at h
  by_cases h0 : 0 ≤ i
  · rw [if_pos h0] at h
    by_cases h1 : i < n
    · rw [if_pos h1] at h
      have e : i.toNat = j := Option.some.inj h
      exact ⟨by rw [seqIndex_of h0 h1, e], by omega, by omega, h1⟩
    · rw [if_neg h1] at h; cases h
  · rw [if_neg h0] at h
    by_cases h1 : -(n : Int) ≤ i
    · rw [if_pos h1] at h
      have e : (i + n).toNat = j := Option.some.inj h
      exact ⟨by rw [seqIndex_neg (by omega) h1, e], by omega, h1, by omega⟩
    · rw [if_neg h1] at h; cases h
theorem atI_get {α : Type} {xs : List α} {i : Int} {v : α} (h : atI xs i = some v) : ∃ j, seqIndex? i xs.length = some j ∧ xs[j]? = some v ∧ j < xs.length ∧ -(xs.length : Int) ≤ i ∧ i < xs.length := by
  unfold atI at h
  cases e : ixN xs.length i with
  | none => rw [e] at h; cases h
  | some j =>
    rw [e] at h
    obtain ⟨h1, h2, h3, h4⟩ := ixN_seq e
    exact ⟨j, h1, h, h2, h3, h4⟩
theorem atI_nat {α : Type} {xs : List α} {j : Nat} {v : α} (h : xs[j]? = some v) : atI xs (j : Int) = some v := by
  have hj : j < xs.length := (List.getElem?_eq_some_iff.mp h).1
  have e : ixN xs.length (j : Int) = some j := by
    unfold ixN
    rw [if_pos (by omega), if_pos (by omega)]; simp
  unfold atI; rw [e]; exact h
/-! ### what may be subscripted -/
/-- what stands as an index of a plain subscript -/
def PlainIx (b : Expr) : Prop := ∀ o i, subscripted b false o i = operate [o, i] (getItem o i)
/-- a subscript by values -/
def IxR (X : Cx) (r : R2) : Prop :=
  ∀ (value slice : Expr) (pins : List (Addr × Obj)) (s : Shared) (σ : St) (H : Hp) (x y : V) (v u : Value) (Q : VK), Inv X pins σ H s → RelV x v → RelV y u → r x y H Q →
    subscripted slice false v u = operate [v, u] (getItem v u) → wpAny (model X.prog X.w) X.A (subscriptTail value slice v u) (EP X pins σ Q) X.xe s
/-- a call of a builtin's method by values: the receiver, the arguments -/
def MtR (X : Cx) (id : String) (r : V → List V → Hp → VK → Prop) : Prop :=
  ∀ (pins : List (Addr × Obj)) (s : Shared) (σ : St) (H : Hp) (x : V) (xs : List V) (v : Value) (us : List Value) (Q : VK), Inv X pins σ H s → RelV x v → Vals xs us → r x xs H Q →
    wpAny (model X.prog X.w) X.A (call (.builtin id) (v :: us)) (EP X pins σ Q) X.xe s
section
variable {X : Cx} {a b : Expr} {ta tb : TE} {pos : Pos}
/-- a[b] -/
theorem pe_ix {r : R2} (hr : IxR X r) (ha : PE X a ta) (hb : PE X b tb) (hs : PlainIx b) : PE X (.Subscript a b pos) (tOp r ta tb) := by
  intro pins s σ H Q I h
  exact Subscript_ (binT ha hb I h fun v u s2 x y H2 I2 rx ry q => hr a b pins s2 σ H2 x y v u Q I2 rx ry q (hs _ _))

def rIxL (K : PySem.W.Frag) : R2 := fun x y H Q => ∃ p xs i v, x = .ref p ∧ y = .int i ∧ SqL K H p xs ∧ atI xs i = some v ∧ Q v H
def rIxT (K : PySem.W.Frag) : R2 := fun x y H Q => ∃ p xs i v, x = .ref p ∧ y = .int i ∧ SqT K H p xs ∧ atI xs i = some v ∧ Q v H
def rIxS : R2 := fun x y H Q => ∃ z i c, x = .str z ∧ y = .int i ∧ z.length ≤ sizeLine ∧ atI z.cps.toList i = some c ∧ Q (.str ⟨#[c]⟩) H
theorem ix_list : IxR X (rIxL X.K) := by
  intro value slice pins s σ H x y v u Q I rx ry h hs
  obtain ⟨p, xs, i, z, rfl, rfl, hq, he, q⟩ := h
  cases rx
  obtain ⟨t, rfl⟩ := ry
  obtain ⟨its, r, pl, hz⟩ := I.list hq
  obtain ⟨j, h1, h2, h3, h4, h5⟩ := atI_get he
  obtain ⟨w, ew, rw'⟩ := r.get h2
  have hl := r.length
  have hn := line63
  have fin : EP X pins σ Q w s := ⟨z, H, I, rw', q⟩
  by_cases h0 : 0 ≤ i
  · have hj : i.toNat = j := by
      rw [seqIndex_of h0 h5] at h1
      exact Option.some.inj h1
    exact item_listR pl.isList h0 (by omega) (by rw [hj]; simpa using ew) fin hs
  · have hj : (i + (its.toArray.size : Int)).toNat = j := by
      rw [seqIndex_neg (by omega) h4] at h1
      rw [List.size_toArray, ← hl]
      exact Option.some.inj h1
    exact subscriptTail_builtinR (x := w) pl.isList.typeIs slot_list_getitem.lookup
      (wpAny_getItem_list_neg (Q := fun r s' => r = w ∧ EP X pins σ Q r s') pl.isList (by omega) (by rw [List.size_toArray] <;> omega) (by omega) (by rw [hj]; simpa using ew) ⟨rfl, fin⟩) hs
theorem ix_tup : IxR X (rIxT X.K) := by
  intro value slice pins s σ H x y v u Q I rx ry h hs
  obtain ⟨p, xs, i, z, rfl, rfl, hq, he, q⟩ := h
  cases rx
  obtain ⟨t, rfl⟩ := ry
  obtain ⟨its, r, pl, hz⟩ := I.tuple hq
  obtain ⟨j, h1, h2, h3, h4, h5⟩ := atI_get he
  obtain ⟨w, ew, rw'⟩ := r.get h2
  have hl := r.length
  have hn := line63
  have fin : EP X pins σ Q w s := ⟨z, H, I, rw', q⟩
  exact subscriptTail_builtinR (x := w) pl.typeIs slot_tuple_getitem.lookup
    (getItem_tuple (j := j) (Q := fun r s' => r = w ∧ EP X pins σ Q r s') pl (by omega) (by omega) (by rw [List.size_toArray, ← hl]; exact h1) (by simpa using ew) ⟨rfl, fin⟩) hs
/-- list, tuple or str -/
def rIx (K : PySem.W.Frag) : R2 := fun x y H Q => rIxL K x y H Q ∨ rIxT K x y H Q ∨ rIxS x y H Q
/-! ### xs[i] = v, any sign -/
def rSetL : V → V → V → Hp → (Hp → Prop) → Prop := fun o i v H Q => ∃ p xs k j, o = .ref p ∧ i = .int k ∧ H p = some (.lst xs) ∧ ixN xs.length k = some j ∧ Q (upd H p (.lst (xs.set j v)))
/-! ### slices -/
theorem slice_bounds (lo hi : Option Int) (n : Nat) : (sliceBounds lo hi none n).1 = ((HT.sIx n 0 lo : Nat) : Int) ∧ (sliceBounds lo hi none n).2.1 = ((HT.sIx n n hi : Nat) : Int) ∧ (sliceBounds lo hi none n).2.2 = 1 := by
  refine ⟨?_, ?_, rfl⟩
  · cases lo with
    | none => simp [sliceBounds, HT.sIx]
    | some i =>
      simp only [sliceBounds, HT.sIx, Option.getD_none, show (1 : Int) > 0 by decide, if_true]
      by_cases h : i < 0
      · simp only [h, if_true] <;> omega
      · simp only [h, if_false] <;> omega
  · cases hi with
    | none => simp [sliceBounds, HT.sIx]
    | some i =>
      simp only [sliceBounds, HT.sIx, Option.getD_none, show (1 : Int) > 0 by decide, if_true]
      by_cases h : i < 0
      · simp only [h, if_true] <;> omega
      · simp only [h, if_false] <;> omega
theorem slicePick_cut (its : List Value) (lo hi : Option Int) : slicePick its.toArray lo hi none = ((its.drop (HT.sIx its.length 0 lo)).take (HT.sIx its.length its.length hi - HT.sIx its.length 0 lo)).toArray := by
  obtain ⟨h1, h2, h3⟩ := slice_bounds lo hi its.toArray.size
  unfold slicePick
  rw [h1, h2, h3]
  simp only [sliceRange_one, pick_run, List.size_toArray] <;> rfl
/-- xs[lo:hi] of a list: a new list -/
def rSlL (K : PySem.W.Frag) : V → Option Int → Option Int → Hp → VK → Prop := fun x lo hi H Q => ∃ a xs, x = .ref a ∧ SqL K H a xs ∧ ∀ p, H p = none → Q (.ref p) (upd H p (.lst (cutV xs lo hi)))
theorem sl_list : SlR X (rSlL X.K) := by
  intro pins s σ H x v vl vu lo hi sl Q I rx hs pl pu h
  obtain ⟨a, xs, rfl, hx, q⟩ := h
  cases rx
  obtain ⟨its, r, ht, hz⟩ := I.list hx
  have hlen := r.length
  refine ⟨"list", _, slot_list_getitem.lookup, ht.isList.typeIs, ?_⟩
  refine wpAny_getItem_list_slice ht.isList hs pl pu .none (by simp) ?_ (by rw [List.size_toArray] <;> omega)
  rw [slicePick_cut, ← hlen]
  refine ⟨.ref s.heap.objs.size, _, I.laid (t' := s.toks) (o := .lst (cutV xs lo hi)) (fun b ob q => Heap.get?_push_of_some _ q) (Nat.le_refl _) ?_, rfl, q _ (I.hok.fresh (Nat.le_refl _))⟩
  exact ⟨Nat.le_trans (cutV_length xs lo hi) hz, _, 0, (r.drop (HT.sIx xs.length 0 lo)).take (HT.sIx xs.length xs.length hi - HT.sIx xs.length 0 lo), Heap.get?_push_size _ rfl⟩

/-! ### in, not in: flat items -/
def flatV : V → Bool
  | .non => true
  | .bl _ => true
  | .int _ => true
  | .str _ => true
  | _ => false
/-- == of flat values -/
def eqV : V → V → Bool
  | .non, .non => true
  | .bl a, .bl b => a == b
  | .bl a, .int b => (if a then 1 else 0) == b
  | .int a, .bl b => a == (if b then 1 else 0)
  | .int a, .int b => a == b
  | .str a, .str b => a == b
  | _, _ => false
theorem eqAt_V {A : Around} {s : Shared} {y x : V} {u v : Value} (ry : RelV y u) (rx : RelV x v) (fy : flatV y = true) (fx : flatV x = true) : SeqAt.EqAt A s u v (eqV y x) := by
  cases y with
  | non =>
    cases ry
    cases x with
    | non => cases rx; exact SeqAt.EqAt.same _
    | bl b => cases rx; exact SeqAt.EqAt.none_bool b
    | int b => obtain ⟨t, rfl⟩ := rx; exact SeqAt.EqAt.none_int b t
    | str b => obtain ⟨t, rfl⟩ := rx; exact SeqAt.EqAt.none_str b t
    | _ => exact absurd (show false = true from fx) Bool.false_ne_true
  | bl a =>
    cases ry
    cases x with
    | non => cases rx; exact SeqAt.EqAt.bool_none a
    | bl b => cases rx; exact SeqAt.EqAt.bool_bool a b
    | int b => obtain ⟨t, rfl⟩ := rx; exact SeqAt.EqAt.bool_int a b t
    | str b => obtain ⟨t, rfl⟩ := rx; exact SeqAt.EqAt.bool_str a b t
    | _ => exact absurd (show false = true from fx) Bool.false_ne_true
  | int a =>
    obtain ⟨t', rfl⟩ := ry
    cases x with
    | non => cases rx; exact SeqAt.EqAt.int_none a t'
    | bl b => cases rx; exact SeqAt.EqAt.int_bool a t' b
    | int b => obtain ⟨t, rfl⟩ := rx; exact SeqAt.EqAt.int_int a t' b t
    | str b => obtain ⟨t, rfl⟩ := rx; exact SeqAt.EqAt.int_str a t' b t
    | _ => exact absurd (show false = true from fx) Bool.false_ne_true
  | str a =>
    obtain ⟨t', rfl⟩ := ry
    cases x with
    | non => cases rx; exact SeqAt.EqAt.str_none a t'
    | bl b => cases rx; exact SeqAt.EqAt.str_bool a t' b
    | int b => obtain ⟨t, rfl⟩ := rx; exact SeqAt.EqAt.str_int a t' b t
    | str b => obtain ⟨t, rfl⟩ := rx; exact SeqAt.EqAt.str_str a t' b t
    | _ => exact absurd (show false = true from fx) Bool.false_ne_true
  | _ => exact absurd (show false = true from fy) Bool.false_ne_true
/-- the items' answers, read off the values (a value's own answer does not lean on its token) -/
def eqU (x : V) (u : Value) : Bool := match u with
  | .none => eqV .non x
  | .bool b => eqV (.bl b) x
  | .int i _ => eqV (.int i) x
  | .str z _ => eqV (.str z) x
  | _ => false
def inV (x : V) (xs : List V) : Bool := xs.any fun y => eqV y x
/-- x in a list or tuple of flat items -/
def rIn (K : PySem.W.Frag) (neg : Bool) : R2 := fun x y H Q => ∃ p xs, y = .ref p ∧ (SqL K H p xs ∨ SqT K H p xs) ∧ flatV x = true ∧ xs.all flatV = true ∧ Q (.bl (if neg then !inV x xs else inV x xs)) H
/-! ### len, list(x), tuple(x) of any list or tuple that is read -/
theorem call_len_seq : CallR X (.builtin "len") (fun xs H Q => ∃ p ys, xs = [.ref p] ∧ (SqL X.K H p ys ∨ SqT X.K H p ys) ∧ Q (.int ys.length) H) := by
  intro pins s σ H xs us Q I r h
  obtain ⟨p, ys, rfl, hq, q⟩ := h
  obtain ⟨u, rfl, rx⟩ := vals1 r
  cases rx
  have hn := line63
  rcases hq with hq | hq
  · obtain ⟨its, r', pl, hz⟩ := I.list hq
    have hlen := r'.length
    exact Calls.call_len_list pl.isList (by simp only [List.size_toArray] <;> omega) ⟨.int ys.length, H, I.tok _, ⟨s.toks + 1, by rw [List.size_toArray, hlen]⟩, q⟩
  · obtain ⟨its, r', pl, hz⟩ := I.tuple hq
    have hlen := r'.length
    exact len_tuple pl (by simp only [List.size_toArray] <;> omega) ⟨.int ys.length, H, I.tok _, ⟨s.toks + 1, by rw [List.size_toArray, hlen]⟩, q⟩
theorem call_list_of : CallR X (.type "list") (fun xs H Q => ∃ p ys, xs = [.ref p] ∧ (SqL X.K H p ys ∨ SqT X.K H p ys) ∧ ∀ l, H l = none → Q (.ref l) (upd H l (.lst ys))) := by
  intro pins s σ H xs us Q I r h
  obtain ⟨p, ys, rfl, hq, q⟩ := h
  obtain ⟨u, rfl, rx⟩ := vals1 r
  cases rx
  have fin : ∀ (its : List Value), Vals ys its → ys.length ≤ sizeLine → ∀ (h' : Heap) (c' : Nat), (∀ b o', s.heap.get? b = some o' → h'.get? b = some o') →
      h'.get? s.heap.objs.size = some { cls := .type "list", dict := none, data := .seq its.toArray c', slots := #[] } → EP X pins σ Q (.ref s.heap.objs.size) { s with heap := h' } := fun its r' hz h' c' kp e =>
    ⟨.ref s.heap.objs.size, _, I.laid (t' := s.toks) kp (Nat.le_refl _) (show ObjOk X.prog X.w _ h' _ (.lst ys) from ⟨hz, its, c', r', e⟩), rfl, q _ (I.hok.fresh (Nat.le_refl _))⟩
  rcases hq with hq | hq
  · obtain ⟨its, r', pl, hz⟩ := I.list hq
    have hlen := r'.length
    obtain ⟨o, ho, hc, n, hd⟩ := pl.isList
    exact call_list_seq p (.inl rfl) ho hc hd (fun h' c' kp e => fin its r' hz h' c' kp e) (by simp only [List.size_toArray] <;> omega)
  · obtain ⟨its, r', pl, hz⟩ := I.tuple hq
    have hlen := r'.length
    obtain ⟨o, ho, hc, n, hd⟩ := pl
    exact call_list_seq p (.inr rfl) ho hc hd (fun h' c' kp e => fin its r' hz h' c' kp e) (by simp only [List.size_toArray] <;> omega)
/-! ### the call of a builtin's method: o.m(..) -/
/-- the value is of that builtin type -/
def tyV (K : PySem.W.Frag) (T : String) (x : V) (H : Hp) : Prop := match x with
  | .str _ => T = "str"
  | .int _ => T = "int"
  | .ref p => (T = "list" ∧ ∃ xs, SqL K H p xs) ∨ (T = "tuple" ∧ ∃ o, K.lookup p = some o ∧ o.cls = .type "tuple" ∧ o.dict = none) ∨
      (T = "dict" ∧ ((∃ kvs, H p = some (.dK kvs)) ∨ ∃ kvs, H p = some (.dT kvs))) ∨ (T = "set" ∧ ∃ S n, H p = some (.set S n))
  | _ => False
theorem tyV_is {pins : List (Addr × Obj)} {σ : St} {H : Hp} {s : Shared} {T : String} {x : V} {v : Value} (I : Inv X pins σ H s) (r : RelV x v) (ty : tyV X.K T x H) :
    s.TypeIs v T ∧ ∀ a, v = .ref a → ∃ ob, s.heap.get? a = some ob ∧ ob.dict = none := by
  cases x with
  | str z =>
    obtain ⟨t, rfl⟩ := r
    cases (show T = "str" from ty)
    exact ⟨typeIs_str s z t, fun _ e => nomatch e⟩
  | int i =>
    obtain ⟨t, rfl⟩ := r
    cases (show T = "int" from ty)
    exact ⟨typeIs_int s i t, fun _ e => nomatch e⟩
  | ref p =>
    cases r
    rcases ty with ⟨rfl, xs, hq⟩ | ⟨rfl, o, hk, hc, hd⟩ | ⟨rfl, hk⟩ | ⟨rfl, S, n, hk⟩
    · obtain ⟨its, _, pl, _⟩ := I.list hq
      refine ⟨pl.isList.typeIs, fun a e => ?_⟩
      cases e
      obtain ⟨o, n, e, c, hd, _⟩ := pl
      exact ⟨o, e, hd⟩
    · refine ⟨⟨o, I.kIn p o hk, hc⟩, fun a e => ?_⟩
      cases e
      exact ⟨o, I.kIn _ o hk, hd⟩
    · have z : ∃ o, s.heap.get? p = some o ∧ o.ExactDict := by
        rcases hk with ⟨kvs, hk⟩ | ⟨kvs, hk⟩
        · obtain ⟨_, _, _, _, o, _, _, e, ex, _⟩ := I.hok p _ hk
          exact ⟨o, e, ex⟩
        · obtain ⟨_, _, _, _, o, _, _, e, ex, _⟩ := I.hok p _ hk
          exact ⟨o, e, ex⟩
      obtain ⟨o, e, ex⟩ := z
      refine ⟨⟨o, e, ex.1⟩, fun a e2 => ?_⟩
      cases e2
      exact ⟨o, e, ex.2.1⟩
    · obtain ⟨o, _, _, _, e, ex, _⟩ := I.hok p _ hk
      refine ⟨⟨o, e, ex.1⟩, fun a e2 => ?_⟩
      cases e2
      exact ⟨o, e, ex.2.1⟩
  | _ => exact False.elim ty
def tBM0 (K : PySem.W.Frag) (T : String) (r : V → List V → Hp → VK → Prop) (to : TE) : TE := fun σ H Q => to σ H fun x H1 => tyV K T x H1 ∧ r x [] H1 Q
def tBM (K : PySem.W.Frag) (T : String) (r : V → List V → Hp → VK → Prop) (to : TE) (t : TA) : TE := fun σ H Q => to σ H fun x H1 => tyV K T x H1 ∧ t σ H1 fun xs H2 => r x xs H2 Q
variable {o e : Expr} {es : List Expr} {to : TE} {t : TA} {name : Str} {apos cpos : Pos} {T id : String} {r : V → List V → Hp → VK → Prop}
theorem pe_bm (pa : PlainAttrs T) (slot : Slot T name id) (hty : typeOf (.builtin id) = pure (.type "method_descriptor")) (hm : MtR X id r) (ho : PE X o to) (ha : PA X (e :: es) t)
    (hbase : attributeBase o name X.env (eval o X.env) = eval o X.env := by rfl)
    (hfew : ((backTo cpos (starEach (e :: es) X.env)).all (fun x => !x.1) && (backToKw cpos (keywordEach [] X.env)).all (fun x => x.1.isSome)
      && decide ((e :: es).length + ([] : List Keyword).length + (if ([] : List Keyword).isEmpty then 0 else 1) < 30)) = true := by rfl)
    (hline : (apos.endLine == cpos.line) = true := by rfl) (hs : starEach (e :: es) X.env = (false, eval e X.env) :: starEach es X.env := by rfl) (hplain : (backTo cpos (starEach es X.env)).any (·.1) = false := by rfl) :
    PE X (.Call (.Attribute o name apos) (e :: es) [] cpos) (tBM X.K T r to t) := by
  intro pins s σ H Q I h
  refine wpAny_Call_method_late hbase hfew hline rfl (thn (ho pins s σ H _ I h) fun v s1 ⟨x, H1, I1, r1, ty, q1⟩ => ?_)
  obtain ⟨h1, h2⟩ := tyV_is I1 r1 ty
  refine ⟨T, id, pa, slot, hty, h1, h2, ?_⟩
  have hA := ha cpos pins s1 σ H1 _ I1 q1
  rw [hs] at hA ⊢
  refine Calls.callWith_builtin (by show (false || (backTo cpos (starEach es X.env)).any (·.1)) = false; rw [hplain] <;> rfl) (Calls.evalArgs_plain ?_)
  exact thn hA fun us s2 ⟨vs, H2, I2, r2, q2⟩ => hm pins s2 σ H2 x vs v us Q I2 r1 r2 q2
/- xs.append(e), list.index on a module's tuple .. are MtR facts of 06m -/
end
end L2

namespace L2
open PySem PySem.Spec PyProof.Rows

def MtM (X : Cx) (id : String) (r : V → List V → Hp → VK → Prop) : Prop :=
  ∀ (pins : List (Addr × Obj)) (s : Shared) (σ : St) (H : Hp) (x : V) (xs : List V) (v : Value) (us : List Value) (Q : VK), Inv X pins σ H s → RelV x v → Vals xs us → r x xs H Q →
    wpAny (model X.prog X.w) X.A (call (.builtin id) (v :: us)) (EP X pins σ Q) X.xe s

/-! ### lists of values -/
theorem Vals.one : ∀ {x : V} {us : List Value}, Vals [x] us → ∃ u, us = [u] ∧ RelV x u
  | _, _, .cons r .nil => ⟨_, rfl, r⟩
theorem Vals.two : ∀ {x y : V} {us : List Value}, Vals [x, y] us → ∃ u v, us = [u, v] ∧ RelV x u ∧ RelV y v
  | _, _, _, .cons r (.cons q .nil) => ⟨_, _, rfl, r, q⟩
section
variable {X : Cx} {pins : List (Addr × Obj)} {σ : St} {H : Hp} {s : Shared} {l b : Addr} {xs ys zs : List V}

/-! ### the two steps: a tracked list is rewritten, a new list is laid -/
theorem Inv.lset {its its' : List Value} {n : Nat} {f : Array Value → Array Value} {t' : Nat} (I : Inv X pins σ H s) (hH : H l = some (.lst xs))
    (e : s.heap.get? l = some { cls := .type "list", data := .seq its.toArray n }) (hf : f its.toArray = its'.toArray) (hv : Vals ys its') (hz : ys.length ≤ sizeLine) :
    Inv X pins σ (upd H l (.lst ys)) { s with heap := s.heap.update l (Obj.mapSeq f), toks := t' } := by
  have q := PySem.IsL.update e f
  rw [hf] at q
  refine I.write (x := l) (e := l) (by rw [hH]; exact trivial) (.inl rfl) (fun b' u hb hu => (Heap.get?_update_other s.heap (Obj.mapSeq f) (Ne.symm hb)).trans hu) ⟨_, q⟩ ?_
  exact ⟨hz, its', _, hv, q⟩
theorem Inv.lnew {its : List Value} {t' : Nat} (I : Inv X pins σ H s) (hv : Vals ys its) (hz : ys.length ≤ sizeLine) :
    Inv X pins σ (upd H s.heap.objs.size (.lst ys)) { s with heap := s.heap.push { cls := .type "list", data := .seq its.toArray }, toks := t' } :=
  I.laid (fun _ _ q => Heap.get?_push_of_some _ q) (Nat.le_refl _) ⟨hz, its, 0, hv, Heap.get?_push_size _ rfl⟩
theorem Inv.lstM (I : Inv X pins σ H s) (hH : H l = some (.lst xs)) : xs.length ≤ sizeLine ∧ ∃ (its : List Value) (n : Nat), Vals xs its ∧ xs.length = its.length ∧ s.heap.get? l = some { cls := .type "list", data := .seq its.toArray n } := by
  obtain ⟨z, its, n, r, e⟩ := I.hok l _ hH
  exact ⟨z, its, n, r, r.length, e⟩

end

section
variable {X : Cx}

/-! ### methods -/
def rAppend : V → List V → Hp → VK → Prop := fun x vs H Q => ∃ l xs y, x = .ref l ∧ vs = [y] ∧ H l = some (.lst xs) ∧ xs.length < sizeLine ∧ Q .non (upd H l (.lst (xs ++ [y])))
theorem mt_append : MtM X "list.append" rAppend := by
  intro pins s σ H x vs v us Q I rx rv h
  obtain ⟨l, xs, y, rfl, rfl, hH, hz, q⟩ := h
  cases rx
  obtain ⟨u, rfl, ru⟩ := rv.one
  obtain ⟨z, its, n, r, hl, e⟩ := I.lstM hH
  refine call_meets F.slot_list_append ⟨_, e, rfl⟩ F.entry_list_append (F.args_list_append_2 _ _) (PySem.list_append l its.toArray n u (by rw [List.size_toArray]; omega)) ⟨e, ?_⟩
  refine ⟨.non, _, I.lset (its' := its ++ [u]) hH e (by simp) (r.append (.cons ru .nil)) ?_, rfl, q⟩
  rw [List.length_append, List.length_singleton]
  omega

def rExtend : V → List V → Hp → VK → Prop := fun x vs H Q => ∃ l b xs zs, x = .ref l ∧ vs = [.ref b] ∧ H l = some (.lst xs) ∧ H b = some (.lst zs) ∧ xs.length + zs.length ≤ sizeLine ∧ Q .non (upd H l (.lst (xs ++ zs)))
def rPop : V → List V → Hp → VK → Prop := fun x vs H Q => ∃ l xs y, x = .ref l ∧ vs = [] ∧ H l = some (.lst xs) ∧ xs[xs.length - 1]? = some y ∧ Q y (upd H l (.lst xs.dropLast))
def rPopAt : V → List V → Hp → VK → Prop := fun x vs H Q => ∃ l xs i k y, x = .ref l ∧ vs = [.int i] ∧ H l = some (.lst xs) ∧ -(2 ^ 63) ≤ i ∧ i < 2 ^ 63 ∧ seqIndex? i xs.length = some k ∧ xs[k]? = some y ∧ Q y (upd H l (.lst (xs.eraseIdx k)))
def rReverse : V → List V → Hp → VK → Prop := fun x vs H Q => ∃ l xs, x = .ref l ∧ vs = [] ∧ H l = some (.lst xs) ∧ Q .non (upd H l (.lst xs.reverse))
def rClear : V → List V → Hp → VK → Prop := fun x vs H Q => ∃ l xs, x = .ref l ∧ vs = [] ∧ H l = some (.lst xs) ∧ Q .non (upd H l (.lst []))
/-! ### list + list, list += list, list * int -/
def rCat : R2 := fun x y H Q => ∃ l b xs zs, x = .ref l ∧ y = .ref b ∧ H l = some (.lst xs) ∧ H b = some (.lst zs) ∧ xs.length + zs.length ≤ sizeLine ∧ ∀ p, H p = none → Q (.ref p) (upd H p (.lst (xs ++ zs)))
/-- a list times an int (a negative one is nothing) -/
def rRep : R2 := fun x y H Q => ∃ l k xs, x = .ref l ∧ y = .int k ∧ H l = some (.lst xs) ∧ -(2 ^ 63) ≤ k ∧ k < 2 ^ 63 ∧ xs.length * k.toNat ≤ sizeLine ∧
  ∀ p, H p = none → Q (.ref p) (upd H p (.lst (List.replicate k.toNat xs).flatten))
/-! ### del xs[i] -/
end

/-! ### xs[a:b] = ys -/
section
variable {prog : Program} {w : World} {A : Around} {E : Value → Shared → Prop} {s : Shared}
set_option maxRecDepth 100000 in
end

section
variable {X : Cx}
end
end L2

namespace Att
open PySem PySem.W PySem.Calls PyProof.Rows

/-! ### the script -/
theorem ints_of_wellAll {P : Params} {h : Heap} : ∀ (ns : List Int) (vs : List Value), WellAll P h vs (ns.map WData.int) → IntsAre vs ns := by
  intro ns
  induction ns with
  | nil =>
    intro vs w
    rw [List.map_nil] at w
    cases w
    exact .nil
  | cons n ns ih =>
    intro vs w
    rw [List.map_cons] at w
    cases w with
    | cons a b =>
      cases a
      exact .cons _ _ (ih _ b)

theorem script_of {l : OpenLaw} {n : Nat} (hn : l.most = some n) {P : Params} {h : Heap} {args : List WData} {vals : List Value}
    (hpre : l.row.toRowW.claim.pre args = true) (hwl : WellAll P h vals args) :
    ∃ a vs ns, vals = [Value.ref a] ∧ args = [WData.list (ns.map WData.int)] ∧ h.get? a = some { cls := .type "list", data := .seq vs.toArray } ∧ IntsAre vs ns ∧ ns.length ≤ n := by
  have hsh : WShape.hasAll [] args [.list .int] = true := (pre_splitW hpre).1
  have hc : l.pre.holds [] { args := args } = true := (pre_splitW hpre).2
  obtain ⟨d, r, rfl, h1, h2⟩ := hasAllW_cons hsh
  obtain rfl := hasAllW_nil h2
  obtain ⟨xs, rfl, h3⟩ := hasW_list h1
  obtain ⟨ns, rfl⟩ := items_int h3
  have hlen : ns.length ≤ n := by
    unfold OpenLaw.pre at hc
    have h4 : (WTm.not (.lt (.lit (.int (n : Int))) (.len (.arg 0)))).holds [] { args := [.list (ns.map .int)] } = true := by
      have h4 := (holds_andW hc).1
      rw [hn] at h4
      exact h4
    have h5 := condW_of h4 (w_not (w_lt w_lit (w_len_list (w_arg rfl))))
    rw [List.length_map] at h5
    refine Nat.le_of_not_lt fun q => ?_
    have q' : (n : Int) < ((ns.length : Nat) : Int) := by omega
    first
      | (rw [decide_eq_true q'] at h5; exact absurd h5 (by decide))
      | (simp at h5; omega)
  cases hwl with
  | cons w1 w2 =>
    cases w2
    cases w1 with
    | list ho hall => exact ⟨_, _, ns, rfl, rfl, ho, ints_of_wellAll ns _ hall, hlen⟩

theorem post_true (l : OpenLaw) (args : List WData) : l.row.toRowW.claim.post args (.bool true) args = true :=
  postW_of (r := l.row.toRowW) (X := (true == true))
    (show WShape.has [] (.bool true) .bool = true by first | rfl | decide | simp [WShape.has, WShape.arms, WShape.armsAll])
    (show (WTm.eq .res (.lit (.bool true))).value [] { args := args, res := some (.bool true), after := args } = some (.bool (true == true)) from w_eq_bool (w_res rfl) w_lit) rfl

/-! ### the attachment: holds_open's last premise (the goal 'hc' behind k_head) from a wpAny of the law's body -/
/-- the same from a codeAny of the CALL (for a layer whose function contracts speak of calls) -/
theorem attach_call {l : OpenLaw} {n : Nat} {q : Program} {loose : List Str} {XP : (Str → Option Value) → Heap → Prop} {YP : World → Heap → Prop} {d : DefRec}
    (hn : l.most = some n) (hdf : d.params.defaults = [])
    (call : ∀ (w : World) (s₀ s₁ : Shared) (mg mb : Str → Option Value) (fa : Addr) (o : Obj) (pm cd doc : Value) (a : Addr) (vs : List Value) (ns : List Int),
      Ground q loose [] XP w s₀ mg mb s₁.heap → YP w s₁.heap →
      s₁.heap.get? fa = some o → o.data = .func (docDef d.name d.params d.body d.scope pm cd doc) → s₁.heap.CodeRec cd d.name → mg d.name = some (.ref fa) →
      s₁.heap.get? a = some { cls := .type "list", data := .seq vs.toArray } → IntsAre vs ns → ns.length ≤ n → s₁.gens = #[] →
      codeAny (model l.prog w) callerA (.call (.ref fa) ⟨[.ref a], []⟩) (fun r s' => r = .ok (.ret (.bool true)) ∧ OldK s₁.heap s'.heap ∧ s'.os = s₁.os ∧ AllBare s'.gens) s₁) :
    WalkO q loose XP YP l.row.toRowW d [] (fun f vs => PySem.call f vs) := by
  intro w s₀ s₁ mg mb G Y fa o pm cd doc dV kV ho hd hcd hD hmg hg args vals as hpre hlay hrd hwl hlo
  obtain rfl : dV = .none := Dflts.none hD hdf
  obtain rfl : kV = .none := Dflts.noKw hD
  obtain ⟨a, vs, ns, rfl, rfl, hobj, hints, hlen⟩ := script_of hn hpre hwl
  refine enter_call (codeAny_mono (call w s₀ s₁ mg mb fa o pm cd doc a vs ns G Y ho (fd_plain hd) hcd hmg hobj hints hlen hg) fun r s' hq => ?_)
  obtain ⟨rfl, h2, h3, h4⟩ := hq
  exact ⟨.inl ⟨.bool true, .bool true, [], rfl, fun _ => rfl, .bool true, post_true l _, fun _ => ⟨List.Pairwise.nil, fun _ hm => (nomatch hm)⟩⟩, h2, h3, h4⟩

/-! ### rules over ANY heap (no ledger) from facts about the written part K: the library's own take a ledger (News) for what they write -/
section
variable {prog : Program} {w : World} {A : Around} {E : Value → Shared → Prop} {s : Shared} {K : Frag}

/-! the whole heap as the ledger: makes every rule that writes through a ledger a rule over any heap -/
def noObjs (h : Heap) : Heap := { h with objs := #[] }
def ledger (h : Heap) (L d : Addr) : List (Addr × Obj) := (List.range h.objs.size).filterMap fun a => if a = L ∨ a = d then none else (h.get? a).map fun o => (a, o)
end
end Att

namespace L2
open PySem PySem.Spec PyProof.Rows

theorem vals_ints : ∀ {vs : List Value} {ns : List Int}, IntsAre vs ns → Vals (ns.map V.int) vs
  | _, _, .nil => .nil
  | _, _, .cons n t h => .cons ⟨t, rfl⟩ (vals_ints h)

/-- nothing is tracked but the script, known to the object (or it is an object of the module) -/
def Only (H : Hp) : Prop := ∀ b, H b = none ∨ ∃ o xs, H b = some (.frz o (.lst xs))

end L2

namespace L2
open PySem PySem.Spec PyProof.Rows

abbrev KOf {K : PySem.W.Frag} {h : Heap} (_ : K.In h) : PySem.W.Frag := K

end L2

/- THE LAST THEOREM (shape; LID, My.* are yours):
   My.Adr: a structure of the addresses that your layer names (classes, functions); My.Txt K t: a structure (Prop) of the equations over K;
   My.txt_mk : {K} {implicit addresses ..} (e1 : nsIn K mainGlobals "law" = some (some (.ref f))) (e2 : K.lookup f = some ⟨oc, od, .func (fnOf "law" "law" params body scope dV kV doc pm an cdv ct), sl⟩) (e3 : codeIn K cdv "law" = true) .. : ∃ t, My.Txt K t

set_option maxRecDepth 100000 in
set_option maxHeartbeats 0 in
theorem PySem.Challenge.cw_LID_holds : PySem.Challenge.rw_LID.Holds := by
  w_on; o_law; k_head; (case hw => w_witness2)
  k_fill
  refine L2.walk_of (l := PySem.Challenge.rw_LID) (n := 63) (k := 40) (x := "script") (CX := fun w => ..) (sp := fun _ => My.sp_law) rfl (by decide) rfl ⟨rfl, by decide, by decide⟩ (fun w h Y => PySem.W.kIn_of Y) ?F ?S ?C
  case F =>
    intro w mg fa h KX G hmg
    have T : ∃ t, My.Txt (L2.KOf KX) t := by
      dsimp only [L2.KOf]                          -- K must stand as «<heap const> w.params» for k_is
      refine' My.txt_mk ?e1 ?e2 ?e3 ..
      (case e1 => PySem.W.k_is)                    -- in the order: a name -> its address -> its object -> its parts
      (case e2 => PySem.W.k_is)
      ..
    obtain ⟨t, T⟩ := T
    have e0 := hmg.symm.trans (PySem.W.mg_of KX G T.law)
    cases e0                                       -- fa is the law's own address
    exact ⟨_, fun s u => .of_eq rfl, fun base kb nb => My.law_fn T kb nb⟩     -- if «.of_eq rfl» comes too early: refine' ⟨_, ?b, fun base kb nb => My.law_fn T kb nb⟩; exact fun s u => .of_eq rfl
  case S => exact fun w H a ns hl hO hS => ..
  case C => exact ..
(the tactic k_is has no namespace: write k_is) -/

/-! SHORT WORDS over the layer: a def of the text, its body, what a loop and a test want. -/
namespace L2
open PySem PySem.Spec PyProof.Rows

/-! ### the text by places -/
/-- the j-th statement of a class's body -/
def inClass (s : Stmt) (j : Nat) : Stmt := match s with
  | .ClassDef _ _ _ body _ _ _ _ _ _ _ => body.getD j (.Pass ⟨0, 0, 0, 0⟩)
  | _ => .Pass ⟨0, 0, 0, 0⟩
def defArgs (s : Stmt) : Arguments := match s with
  | .FunctionDef _ a _ _ _ _ _ _ _ _ => a
  | _ => { posonlyargs := [], args := [], vararg := none, kwonlyargs := [], kw_defaults := [], kwarg := none, defaults := [] }
def defBody (s : Stmt) : List Stmt := match s with
  | .FunctionDef _ _ b _ _ _ _ _ _ _ => b
  | _ => []
def defScope (s : Stmt) : Scope := match s with
  | .FunctionDef _ _ _ _ _ _ sc _ _ _ => sc
  | _ => { kind := .function, names := [], isGenerator := false, isCoroutine := false }

/-! ### no exception leaves a def -/
abbrev CX0 : CXT := fun _ _ _ _ _ _ => False
abbrev E0 : XK := fun _ _ _ => False
theorem pass0 {X : Cx} : Passes CX0 X E0 := fun _ _ _ _ _ _ _ h => h.elim

/-! ### a def (or method) of the text as it stands behind the top -/
structure Fun (K : PySem.W.Frag) (x qual : Str) (st : Stmt) (f : Addr) (fd : FuncData) : Prop where
  ex : ∃ (oc : Value) (od : Option Addr) (kV doc pm : Value) (an : Option Addr) (cdv ct : Value) (osl : Array (Option Value)),
    fd = PySem.W.fnOf x qual (defArgs st) (defBody st) (defScope st) .none kV doc pm an cdv ct ∧ K.lookup f = some ⟨oc, od, .func fd, osl⟩ ∧ PySem.W.codeIn K cdv qual = true
  kp : PySem.W.keepIn K (.ref f) = true
section
variable {P : Program} {w : World} {K : PySem.W.Frag} {mg : Str → Option Value} {base : Heap}
/-- THE RULE for a def: its body as a term of rules, and the reading of that term -/
theorem Fun.ok {x qual : Str} {st : Stmt} {f : Addr} {fd : FuncData} {N ps : List Str} {k : Nat} {sp : Sp} (F : Fun K x qual st f fd) (S : FnScope N ps (defScope st)) (len : ∀ vs H Q E, sp vs H Q E → vs.length = ps.length)
    (hbody : ∀ (cdv : Value) (A : Around) (outer : List Env) (s : Shared) (H : Hp) (vs : List V) (Q : VK) (E : XK), Room k (A.deeper (envOfC qual (defScope st) s.heap.objs.size f cdv)) → sp vs H Q E →
      ∃ t, PSs (cxOf CX0 P w K mg base N qual (defScope st) f cdv A outer s H E).nox (defBody st) t ∧ t { nx := fun _ H' => Q .non H', rt := Q } (start N vs) H) : FnOk P w K mg base CX0 (k + 1) f fd ps sp := by
  obtain ⟨oc, od, kV, doc, pm, an, cdv, ct, osl, rfl, lk, hcd⟩ := F.ex
  refine fn_of lk hcd S len fun A outer s H vs Q E hr hsp => ?_
  obtain ⟨t, h, q⟩ := hbody cdv A outer s H vs Q E hr hsp
  exact ⟨t, h.nox, q⟩
/-- how its arguments bind (no defaults): h is «fun _ _ _ _ _ _ us hl => match us, hl with | [_, _], _ => rfl», one _ a parameter -/
theorem Fun.binds {x qual : Str} {st : Stmt} {f : Addr} {fd : FuncData} {ps : List Str} (F : Fun K x qual st f fd)
    (h : ∀ (kV doc pm : Value) (an : Option Addr) (cdv ct : Value) (us : List Value), us.length = ps.length → bindArgs (PySem.W.fnOf x qual (defArgs st) (defBody st) (defScope st) .none kV doc pm an cdv ct) ⟨us, []⟩ = pure (ps.zip us)) : Binds K fd ps [] := by
  obtain ⟨oc, od, kV, doc, pm, an, cdv, ct, osl, rfl, lk, hcd⟩ := F.ex
  exact .all (h kV doc pm an cdv ct)
theorem fun_mk {x qual : Str} {st : Stmt} {f : Addr} {oc : Value} {od an : Option Addr} {osl : Array (Option Value)} {kV doc pm cdv ct : Value} (l : K.lookup f = some ⟨oc, od, .func (PySem.W.fnOf x qual (defArgs st) (defBody st) (defScope st) .none kV doc pm an cdv ct), osl⟩)
    (c : PySem.W.codeIn K cdv qual = true) (k : PySem.W.keepIn K (.ref f) = true) : Fun K x qual st f (PySem.W.fnOf x qual (defArgs st) (defBody st) (defScope st) .none kV doc pm an cdv ct) := ⟨⟨oc, od, kV, doc, pm, an, cdv, ct, osl, rfl, l, c⟩, k⟩
end
/-! ### expressions in short: the name that stands in the i-th slot -/
section
variable {X : Cx}
theorem pv (i : Nat) {x : Str} {pos : Pos} (hN : X.N[i]? = some x := by rfl) (hv : Vis X.env.scope x := by first | exact Or.inl rfl | exact Or.inr (Or.inl rfl) | exact Or.inr (Or.inr rfl)) (hd : (x == ("__debug__" : Str)) = false := by decide)
    (hcd : (x == ("__classdict__" : Str)) = false := by decide) : PE X (.Name x pos) (tVar i) := pe_var hN hv hd hcd
end

/-! ### tests -/
theorem iteF {A B : Prop} (h : B) : if false = true then A else B := by
  rw [if_neg Bool.false_ne_true]
  exact h
theorem iteT {A B : Prop} (h : A) : if true = true then A else B := by
  rw [if_pos rfl]
  exact h
theorem ite2 {c A B : Prop} [Decidable c] (h1 : c → A) (h2 : ¬ c → B) : if c then A else B := by
  by_cases h : c
  · rw [if_pos h]
    exact h1 h
  · rw [if_neg h]
    exact h2 h
/-! ### heaps -/
/-- all that was tracked is as it was -/
def Same (H H' : Hp) : Prop := ∀ b o, H b = some o → H' b = some o
theorem Same.refl (H : Hp) : Same H H := fun _ _ h => h
theorem Same.trans {H H1 H2 : Hp} (a : Same H H1) (b : Same H1 H2) : Same H H2 := fun c o h => b c o (a c o h)
theorem Same.seq {K : PySem.W.Frag} {H H' : Hp} {a : Addr} {xs : List V} (e : Same H H') (h : SqL K H a xs) : SqL K H' a xs := by
  rcases h with (h | ⟨o, h⟩) | h
  · exact .inl (.inl (e _ _ h))
  · exact .inl (.inr ⟨o, e _ _ h⟩)
  · exact .inr h

end L2

namespace GM
/-- the greatest common divisor, as an int -/
def G (a b : Int) : Int := (Int.gcd a b : Int)
/-- an amount in lowest terms -/
structure Amt (t b : Int) : Prop where
  t0 : 0 ≤ t
  b1 : 1 ≤ b
  g : G t b = 1
end GM

namespace L2
open PySem PySem.Spec PyProof.Rows
/-! ### isinstance against a built-in type -/
inductive Isi (K : PySem.W.Frag) (H : Hp) : V → String → Bool → Prop where
  | int_int {n} : Isi K H (.int n) "int" true
  | int_bool {n} : Isi K H (.int n) "bool" false
  | int_tuple {n} : Isi K H (.int n) "tuple" false
  | int_str {n} : Isi K H (.int n) "str" false
  | int_list {n} : Isi K H (.int n) "list" false
  | bl_int {b} : Isi K H (.bl b) "int" true
  | bl_bool {b} : Isi K H (.bl b) "bool" true
  | bl_tuple {b} : Isi K H (.bl b) "tuple" false
  | bl_str {b} : Isi K H (.bl b) "str" false
  | str_int {x} : Isi K H (.str x) "int" false
  | str_bool {x} : Isi K H (.str x) "bool" false
  | str_tuple {x} : Isi K H (.str x) "tuple" false
  | str_str {x} : Isi K H (.str x) "str" true
  | non_int : Isi K H .non "int" false
  | non_str : Isi K H .non "str" false
  | non_tuple : Isi K H .non "tuple" false
  | tup_tuple {a xs} : SqT K H a xs → Isi K H (.ref a) "tuple" true
  | tup_int {a xs} : SqT K H a xs → Isi K H (.ref a) "int" false
  | tup_str {a xs} : SqT K H a xs → Isi K H (.ref a) "str" false
  | tup_list {a xs} : SqT K H a xs → Isi K H (.ref a) "list" false
  | lst_tuple {a xs} : SqL K H a xs → Isi K H (.ref a) "tuple" false
  | lst_int {a xs} : SqL K H a xs → Isi K H (.ref a) "int" false
  | lst_str {a xs} : SqL K H a xs → Isi K H (.ref a) "str" false
  | lst_list {a xs} : SqL K H a xs → Isi K H (.ref a) "list" true
section
variable {X : Cx}
theorem call_isi : CallR X (.builtin "isinstance") (fun xs H Q => ∃ x T b, xs = [x, .ty T] ∧ Isi X.K H x T b ∧ Q (.bl b) H) := by
  intro pins s σ H xs us Q I r h
  obtain ⟨x, T, b, rfl, hi, q⟩ := h
  obtain ⟨u, w', rfl, rx, ry⟩ := vals2 r
  cases ry
  have f1 : EP X pins σ Q (.bool b) s := ⟨.bl b, H, I, rfl, q⟩
  have f2 : EP X pins σ Q (.bool b) { s with toks := s.toks + 1 } := ⟨.bl b, H, I.tok _, rfl, q⟩
  cases hi with
  | int_int => obtain ⟨t, rfl⟩ := rx; exact IsiPair.int_int f1
  | int_bool => obtain ⟨t, rfl⟩ := rx; exact IsiPair.int_bool f2
  | int_tuple => obtain ⟨t, rfl⟩ := rx; exact IsiPair.int_tuple f2
  | int_str => obtain ⟨t, rfl⟩ := rx; exact IsiPair.int_str f2
  | int_list => obtain ⟨t, rfl⟩ := rx; exact IsiPair.int_list f2
  | bl_int => cases rx; exact IsiPair.bool_int f1
  | bl_bool => cases rx; exact IsiPair.bool_bool f1
  | bl_tuple => cases rx; exact IsiPair.bool_tuple f2
  | bl_str => cases rx; exact IsiPair.bool_str f2
  | str_int => obtain ⟨t, rfl⟩ := rx; exact IsiPair.str_int f2
  | str_bool => obtain ⟨t, rfl⟩ := rx; exact IsiPair.str_bool f2
  | str_tuple => obtain ⟨t, rfl⟩ := rx; exact IsiPair.str_tuple f2
  | str_str => obtain ⟨t, rfl⟩ := rx; exact IsiPair.str_str f1
  | non_int => cases rx; exact IsiPair.NoneType_int f2
  | non_str => cases rx; exact IsiPair.NoneType_str f2
  | non_tuple => cases rx; exact IsiPair.NoneType_tuple f2
  | tup_tuple hq => cases rx; obtain ⟨its, _, ⟨o, e, c, _⟩, _⟩ := I.tuple hq; exact IsiPair.tuple_tuple e c f1
  | tup_int hq => cases rx; obtain ⟨its, _, ⟨o, e, c, _⟩, _⟩ := I.tuple hq; exact IsiPair.tuple_int e c f2
  | tup_str hq => cases rx; obtain ⟨its, _, ⟨o, e, c, _⟩, _⟩ := I.tuple hq; exact IsiPair.tuple_str e c f2
  | tup_list hq => cases rx; obtain ⟨its, _, ⟨o, e, c, _⟩, _⟩ := I.tuple hq; exact IsiPair.tuple_list e c f2
  | lst_tuple hq => cases rx; obtain ⟨its, _, ⟨o, n, e, c, _⟩, _⟩ := I.list hq; exact IsiPair.list_tuple e c f2
  | lst_int hq => cases rx; obtain ⟨its, _, ⟨o, n, e, c, _⟩, _⟩ := I.list hq; exact IsiPair.list_int e c f2
  | lst_str hq => cases rx; obtain ⟨its, _, ⟨o, n, e, c, _⟩, _⟩ := I.list hq; exact IsiPair.list_str e c f2
  | lst_list hq => cases rx; obtain ⟨its, _, ⟨o, n, e, c, _⟩, _⟩ := I.list hq; exact IsiPair.list_list e c f1
/-! ### is, is not of bools -/
/-! ### == and != of tuples, at any depth: what the comparison tells -/
inductive DEq (K : PySem.W.Frag) (H : Hp) : Nat → V → V → Bool → Prop where
  | flat {n x y} : flatV x = true → flatV y = true → DEq K H n x y (eqV x y)
  | same {n a} : DEq K H n (.ref a) (.ref a) true
  | tup {n a b xs ys} {e : Nat → Bool} : a ≠ b → SqT K H a xs → SqT K H b ys → (∀ (j : Nat) x y, xs[j]? = some x → ys[j]? = some y → DEq K H n x y (e j)) →
      DEq K H (n + 1) (.ref a) (.ref b) ((List.range (min xs.length ys.length)).all e && xs.length == ys.length)
  | lst {n a b xs ys} {e : Nat → Bool} : a ≠ b → SqL K H a xs → SqL K H b ys → (∀ (j : Nat) x y, xs[j]? = some x → ys[j]? = some y → DEq K H n x y (e j)) →
      DEq K H (n + 1) (.ref a) (.ref b) ((List.range (min xs.length ys.length)).all e && xs.length == ys.length)
theorem tups_at {pins : List (Addr × Obj)} {σ : St} {H : Hp} {s : Shared} (I : Inv X pins σ H s) {A : Around} {a b : Addr} {xs ys : List V} {e : Nat → Bool} (hx : SqT X.K H a xs) (hy : SqT X.K H b ys) (hu : A.units < cLine)
    (hd : ∀ (j : Nat) x y u v, xs[j]? = some x → ys[j]? = some y → RelV x u → RelV y v → SeqAt.EqAt A.in1 s u v (e j)) :
    SeqAt.RcAt A s (.ref a) (.ref b) ((List.range (min xs.length ys.length)).all e && xs.length == ys.length) := by
  obtain ⟨its, r, tx, _⟩ := I.tuple hx
  obtain ⟨its', r', ty, _⟩ := I.tuple hy
  have l1 := r.length
  have l2 := r'.length
  have q := SeqAt.RcAt.tuples (A := A) (e := e) tx ty hu (fun j h1 h2 => ?_)
  · rw [List.size_toArray, List.size_toArray, ← l1, ← l2] at q
    exact q
  · rw [List.size_toArray] at h1 h2
    obtain ⟨x, hxj⟩ : ∃ x, xs[j]? = some x := ⟨_, List.getElem?_eq_getElem (by omega)⟩
    obtain ⟨y, hyj⟩ : ∃ y, ys[j]? = some y := ⟨_, List.getElem?_eq_getElem (by omega)⟩
    obtain ⟨u1, hu1, ru1⟩ := r.get hxj
    obtain ⟨u2, hu2, ru2⟩ := r'.get hyj
    have e1 : its.toArray[j] = u1 := by
      have := (List.getElem?_eq_some_iff.mp hu1).2
      simpa using this
    have e2 : its'.toArray[j] = u2 := by
      have := (List.getElem?_eq_some_iff.mp hu2).2
      simpa using this
    rw [e1, e2]
    exact hd j x y u1 u2 hxj hyj ru1 ru2
theorem isList_of {h : Heap} {a : Addr} {its : Array Value} (p : PlainL h a its) : h.IsList a its := by
  obtain ⟨o, n, e, c, _, d⟩ := p
  exact ⟨o, e, c, n, d⟩
theorem lsts_at {pins : List (Addr × Obj)} {σ : St} {H : Hp} {s : Shared} (I : Inv X pins σ H s) {A : Around} {a b : Addr} {xs ys : List V} {e : Nat → Bool} (hx : SqL X.K H a xs) (hy : SqL X.K H b ys) (hu : A.units < cLine)
    (hd : ∀ (j : Nat) x y u v, xs[j]? = some x → ys[j]? = some y → RelV x u → RelV y v → SeqAt.EqAt A.in1 s u v (e j)) :
    SeqAt.RcAt A s (.ref a) (.ref b) ((List.range (min xs.length ys.length)).all e && xs.length == ys.length) := by
  obtain ⟨its, r, tx, _⟩ := I.list hx
  obtain ⟨its', r', ty, _⟩ := I.list hy
  have l1 := r.length
  have l2 := r'.length
  by_cases hl : xs.length = ys.length
  · have q := SeqAt.RcAt.lists (A := A) (e := e) (isList_of tx) (isList_of ty) (by rw [List.size_toArray, List.size_toArray]; omega) hu (fun j h1 h2 => ?_)
    · rw [List.size_toArray, ← l1] at q
      have e1 : ((List.range (min xs.length ys.length)).all e && xs.length == ys.length) = (List.range xs.length).all e := by
        rw [← hl, Nat.min_self, beq_self_eq_true, Bool.and_true]
      rw [e1]
      exact q
    · rw [List.size_toArray] at h1 h2
      obtain ⟨x, hxj⟩ : ∃ x, xs[j]? = some x := ⟨_, List.getElem?_eq_getElem (by omega)⟩
      obtain ⟨y, hyj⟩ : ∃ y, ys[j]? = some y := ⟨_, List.getElem?_eq_getElem (by omega)⟩
      obtain ⟨u1, hu1, ru1⟩ := r.get hxj
      obtain ⟨u2, hu2, ru2⟩ := r'.get hyj
      have e1 : its.toArray[j] = u1 := by
        have := (List.getElem?_eq_some_iff.mp hu1).2
        simpa using this
      have e2 : its'.toArray[j] = u2 := by
        have := (List.getElem?_eq_some_iff.mp hu2).2
        simpa using this
      rw [e1, e2]
      exact hd j x y u1 u2 hxj hyj ru1 ru2
  · have q := SeqAt.RcAt.lists_lengths (A := A) (isList_of tx) (isList_of ty) (by rw [List.size_toArray, List.size_toArray, ← l1, ← l2, bne_iff_ne]; exact hl) hu
    have e1 : ((List.range (min xs.length ys.length)).all e && xs.length == ys.length) = false := by
      rw [beq_eq_false_iff_ne.mpr hl, Bool.and_false]
    rw [e1]
    exact q
theorem DEq.at {pins : List (Addr × Obj)} {σ : St} {H : Hp} {s : Shared} (I : Inv X pins σ H s) {n : Nat} {x y : V} {k : Bool} (d : DEq X.K H n x y k) : ∀ {A : Around} {u v : Value}, A.units + n < cLine → RelV x u → RelV y v → SeqAt.EqAt A s u v k := by
  induction d with
  | flat fx fy => intro A u v _ rx ry; exact eqAt_V rx ry fx fy
  | same => intro A u v _ rx ry; cases rx; cases ry; exact SeqAt.EqAt.same _
  | @tup n a b xs ys e hne hx hy hd ih =>
    intro A u v hu rx ry
    cases rx; cases ry
    exact SeqAt.EqAt.of_refs hne (tups_at I hx hy (by omega) fun j x y u v h1 h2 r1 r2 => ih j x y h1 h2 (by show A.units + 1 + n < cLine; omega) r1 r2)
  | @lst n a b xs ys e hne hx hy hd ih =>
    intro A u v hu rx ry
    cases rx; cases ry
    exact SeqAt.EqAt.of_refs hne (lsts_at I hx hy (by omega) fun j x y u v h1 h2 r1 r2 => ih j x y h1 h2 (by show A.units + 1 + n < cLine; omega) r1 r2)
/-- == of two tuples; the items' answers e -/
def rEqT (K : PySem.W.Frag) : R2 := fun x y H Q => ∃ a b xs ys, ∃ e : Nat → Bool, x = .ref a ∧ y = .ref b ∧ SqT K H a xs ∧ SqT K H b ys ∧ (∀ (j : Nat) x y, xs[j]? = some x → ys[j]? = some y → DEq K H 40 x y (e j)) ∧
  Q (.bl ((List.range (min xs.length ys.length)).all e && xs.length == ys.length)) H
def rNeT (K : PySem.W.Frag) : R2 := fun x y H Q => ∃ a b xs ys, ∃ e : Nat → Bool, x = .ref a ∧ y = .ref b ∧ SqT K H a xs ∧ SqT K H b ys ∧ (∀ (j : Nat) x y, xs[j]? = some x → ys[j]? = some y → DEq K H 40 x y (e j)) ∧
  Q (.bl (!((List.range (min xs.length ys.length)).all e && xs.length == ys.length))) H
theorem op_eqT (hu : X.A.units + 64 < cLine) : OpR X (compareOp .Eq) (rEqT X.K) := by
  intro pins s σ H x y v u Q I rx ry h
  obtain ⟨a, b, xs, ys, e, rfl, rfl, hx, hy, hd, q⟩ := h
  cases rx; cases ry
  exact tups_at I hx hy (by omega) (fun j x y u v h1 h2 r1 r2 => (hd j x y h1 h2).at I (by show X.A.units + 1 + 40 < cLine; omega) r1 r2) X.prog X.w X.xe _ ⟨.bl _, H, I, rfl, q⟩
end
end L2

namespace L2
open PySem PySem.Spec PyProof.Rows
/-! ### a list comprehension of one clause -/
/-- the loop of a comprehension, a turn at a time -/
theorem compLoop_gen {prog : Program} {w : World} {A : Around} {R : Result → Shared → Prop} {s : Shared} {elt target iter : Expr} {ifs : List Expr} {scope : Scope} {pos : Pos} {it acc : Value} {env : Env} (I : Nat → Shared → Prop)
    (turn : ∀ n s, I n s → wpAny (model prog w) A (pyNext it) (fun r s₁ => match r with
      | none => R (.ok .next) s₁
      | some v => wpAny (model prog w) A (letOwnedTupleGo target it v) (fun _ s₁' => wpAny (model prog w) A (assign target env v) (fun _ s₂ =>
          wpAny (model prog w) A (forIn ifs true fun c r => if r = true then do let ok ← isTrue c env (eval c env); pure (ForInStep.yield ok) else pure (ForInStep.yield r)) (fun ok s₃ =>
            if ok = true then wpAny (model prog w) A (eval elt env) (fun x s₄ =>
              wpAny (model prog w) A (call (.builtin "list.append") [acc, x]) (fun _ s₅ => ∃ m, m < n ∧ I m s₅) (fun _ _ => False) s₄) (fun _ _ => False) s₃
            else ∃ m, m < n ∧ I m s₃) (fun _ _ => False) s₂) (fun _ _ => False) s₁') (fun _ _ => False) s₁) (fun _ _ => False) s)
    (n : Nat) (h : I n s) : codeAny (model prog w) A (.compLoop (.ListComp elt [⟨target, iter, ifs, 0⟩] scope pos) 0 it acc env) R s := by
  refine codeAny_loop rfl I (fun n s hI => ?_) n h
  show wpAny _ A ((compTurn (.ListComp elt [⟨target, iter, ifs, 0⟩] scope pos) 0 it acc env).onRaise (fun x => do noteFrame x env; theTreesLotGoes x)) _ _ s
  refine wpAny_noted ?_
  rw [compTurn_list]
  refine wpAny_bind (wpAny_standAt (wpAny_bind (wpAny_mono (turn n s hI) (fun r s₁ h₁ => ?_) fun _ _ z => z.elim)))
  cases r with
  | none => exact wpAny_pure h₁
  | some v =>
    refine wpAny_bind (wpAny_mono h₁ (fun _ s₁' h₁' => ?_) fun _ _ z => z.elim)
    refine wpAny_bind (wpAny_mono h₁' (fun _ s₂ h₂ => wpAny_bind (wpAny_mono h₂ (fun ok s₃ h₃ => ?_) fun _ _ z => z.elim)) fun _ _ z => z.elim)
    cases ok with
    | false => exact wpAny_pure ⟨rfl, h₃⟩
    | true =>
      exact wpAny_bind (wpAny_bind (wpAny_mono h₃ (fun x s₄ h₄ => wpAny_bind (wpAny_mono h₄ (fun _ s₅ h₅ => wpAny_pure (wpAny_pure ⟨rfl, h₅⟩)) fun _ _ z => z.elim)) fun _ _ z => z.elim))
/-- the block's context -/
def blk (X : Cx) (N' : List Str) (scope : Scope) (cl : List (Str × Addr)) (C : Addr) (s₀ : Shared) (H₀ : Hp) (ex : List Addr) (pn : List (Addr × Obj)) : Cx where
  prog := X.prog
  w := X.w
  K := X.K
  mg := X.mg
  base := X.base
  A := X.A
  N := N'
  s₀ := s₀
  H₀ := H₀
  env := compEnvC scope cl C X.env
  outer := X.stack
  stack := X.stack
  ex := ex
  fn := fun _ => false
  calm := X.calm
  pn := pn
  xe := fun _ _ => False
structure ClOk (X : Cx) (scope : Scope) (cl : List (Str × Addr)) : Prop where
  run : closureFor scope X.env = pure cl
  sub : ∀ x c, cl.lookup x = some c → X.env.cells.lookup x = some c
  has : ∀ x, ((relabel scope X.env).names.lookup x = some .cell ∨ (relabel scope X.env).names.lookup x = some .free) → ∃ c, cl.lookup x = some c
/-- the names that the block takes over stand in cells -/
structure BlkN (X : Cx) (N' : List Str) (scope : Scope) (cl : List (Str × Addr)) (σ σ' : St) : Prop where
  len : σ'.length = N'.length
  from' : ∀ (i : Nat) (x : Str) (v : V), N'[i]? = some x → σ'[i]? = some (some v) → ∃ j : Nat, X.N[j]? = some x ∧ σ[j]? = some (some v) ∧ Vis X.env.scope x ∧ X.env.kindOf x ≠ some .local ∧
    ((relabel scope X.env).names.lookup x = some .cell ∨ (relabel scope X.env).names.lookup x = some .free)
section
variable {X : Cx} {pins : List (Addr × Obj)} {σ σ' : St} {H : Hp} {s : Shared}
theorem blk_start {N' : List Str} {scope : Scope} {cl : List (Str × Addr)} {fp : List Addr} {h₁ : Heap} {t' : Nat} (I : Inv X pins σ H s) (hkind : scope.kind = .function) (hcl : ClOk X scope cl) (hN : BlkN X N' scope cl σ σ') (hf : ∀ b ∈ fp, FpOk X pins H b) (hfo : ∀ b ∈ fp, b < s.heap.objs.size)
    (hns : h₁.Ns s.heap.objs.size (fun _ => none)) (hk : ∀ b o, s.heap.get? b = some o → h₁.get? b = some o) :
    Inv (blk X N' scope cl s.heap.objs.size s H fp (X.pn ++ pins)) [] σ' H { s with heap := h₁, toks := t' } := by
  have hfs : ∀ b, b ∉ (X.env.locals :: X.fs) → b ∉ frs X.stack := fun b hb z => hb (I.stkSub b z)
  refine ⟨⟨I.ok.mod, hkind, I.ok.glob, I.ok.blt, Nat.le_refl _, ?_, hcl.has, fun _ _ h => absurd h (by intro z; cases z), I.ok.hd, I.ok.frames, .inl rfl, ?_, I.bs, Nat.le_trans I.ok.bsz I.sz, ?_, ?_, I.stack, I.stkFree⟩,
    rfl, I.bare, Un.kept hk, ⟨_, hns, ?_⟩, ?_, I.hok.fresh (Nat.le_refl _), fun x c e => I.freeC x c (hcl.sub x c e), ?_, I.hok.kept hk, hN.len⟩
  · intro x y c h1 h2
    exact I.ok.inj x y c (hcl.sub x c h1) (hcl.sub y c h2)
  · intro b hb
    exact ⟨Nat.ne_of_lt (hfo b hb), fun x c e => (hf b hb).2.2.2.2.1 x c (hcl.sub x c e)⟩
  · intro b o e hb
    rcases (hf b hb).2.2.2.1 with q | q
    · exact I.ok.noex b o e q
    · exact absurd (Nat.lt_of_lt_of_le (Heap.lt_size e) (Nat.le_trans I.ok.bsz q)) (Nat.lt_irrefl _)
  · intro b hb
    refine hfs b fun z => ?_
    rcases List.mem_cons.mp z with z | z
    · exact (hf b hb).2.1 z
    · exact (hf b hb).2.2.1 z
  · intro i x v h1 h2 _
    obtain ⟨j, hj, hσ, hv, hnl, hk'⟩ := hN.from' i x v h1 h2
    obtain ⟨m, hn, hl⟩ := I.loc
    obtain ⟨u, r, l⟩ := hl j x v hj hσ hv
    refine ⟨u, r, .inr ⟨hk', ?_⟩⟩
    obtain ⟨c, hc⟩ := hcl.has x hk'
    rcases l with ⟨hloc, _⟩ | ⟨_, c', hc', hcell⟩
    · exact absurd hloc hnl
    · have e := hcl.sub x c hc
      rw [hc'] at e
      cases e
      obtain ⟨o, ho, hd⟩ := hcell
      exact ⟨_, hc, o, hk _ _ ho, hd⟩
  · intro x c e
    obtain ⟨v, o, ho, hd⟩ := I.cell x c (hcl.sub x c e)
    exact ⟨v, o, hk _ _ ho, hd⟩
  · intro p hp
    rw [show (blk X N' scope cl s.heap.objs.size s H fp (X.pn ++ pins)).pn = X.pn ++ pins from rfl, List.append_nil] at hp
    obtain ⟨a1, a2, a3, a4, a5⟩ := I.pin p hp
    refine ⟨hk _ _ a1, a2, Nat.ne_of_lt (Heap.lt_size a1), hfs _ fun z => ?_, a5⟩
    rcases List.mem_cons.mp z with z | z
    · exact a3 z
    · exact a4 z
theorem blk_end {N' : List Str} {scope : Scope} {cl : List (Str × Addr)} {fp : List Addr} {pl : List (Addr × Obj)} {H' : Hp} {s' : Shared} {h'' : Heap} (I : Inv X pins σ H s) (hf : ∀ b ∈ fp, FpOk X pins H b)
    (J : Inv (blk X N' scope cl s.heap.objs.size s H fp (X.pn ++ pins)) pl σ' H' s') (hs : Heap.SameBut s.heap.objs.size s'.heap h'') : Inv X pins σ H' { s' with heap := h'' } := by
  have hne : ∀ b o, s.heap.get? b = some o → b ≠ s.heap.objs.size := fun b o e => Nat.ne_of_lt (Heap.lt_size e)
  have hC : H' s.heap.objs.size = none := J.free
  have ub : Un (frs X.stack) fp H H' s.heap s'.heap := J.base
  have u : Un (frs X.stack) fp H H' s.heap h'' := {
    keep := fun b o e n hb hx => hs.extBut b o (hne b o e) (ub.keep b o e n hb hx)
    slot := fun b o e n hb hx => by
      obtain ⟨sl, q⟩ := ub.slot b o e n hb hx
      exact ⟨sl, hs.extBut b _ (hne b o e) q⟩
    free := ub.free
    there := fun b o e hx => by
      obtain ⟨o', q⟩ := ub.there b o e hx
      exact ⟨o', hs.extBut b _ (hne b o e) q⟩
    tups := ub.tups
    frzs := ub.frzs
    tbls := ub.tbls }
  have hok : HOk X.prog X.w H' h'' := fun a o e => (J.hok a o e).stay (fun b ob hb q => hs.extBut b ob (fun z => by
    rw [z] at hb
    rcases hb with hb | hb
    · rw [← hb, hC] at e; cases e
    · rw [hC] at hb; cases hb) q) (fun _ h => h) (fun _ _ h => h)
  exact I.call' (s' := { s' with heap := h'' }) J.os u hok J.bare fun b hb => by
    obtain ⟨f0, f1, f2, f3, f4, f5⟩ := hf b hb
    exact ⟨f3, f1, f4, f5⟩
end
end L2

namespace L2
open PySem PySem.Spec PyProof.Rows
/-- the tests of a clause -/
def PIfs (X : Cx) (ifs : List Expr) (t : TT) : Prop :=
  ∀ (pins : List (Addr × Obj)) (s : Shared) (σ : St) (H : Hp) (Q : Bool → Hp → Prop), Inv X pins σ H s → t σ H Q →
    wpAny (model X.prog X.w) X.A (forIn ifs true fun c r => if r = true then do let ok ← isTrue c X.env (eval c X.env); pure (ForInStep.yield ok) else pure (ForInStep.yield r)) (TP X pins σ Q) X.xe s
def tNoIf : TT := fun _ H Q => Q true H
theorem pifs_nil {X : Cx} : PIfs X [] tNoIf := fun _ _ _ H _ I h => wpAny_tests_nil ⟨H, I, h⟩
/-- the slots that were filled are as they were -/
structure Keep (σa σb : St) : Prop where
  len : σb.length = σa.length
  at' : ∀ (i : Nat) (v : V), σa[i]? = some (some v) → σb[i]? = some (some v)
theorem Keep.refl (σ : St) : Keep σ σ := ⟨rfl, fun _ _ h => h⟩
theorem Keep.set {σa σb : St} {i : Nat} {v : V} (k : Keep σa σb) (h : σa[i]? = some none) : Keep σa (σb.set i (some v)) := by
  refine ⟨by rw [List.length_set]; exact k.len, fun j u e => ?_⟩
  have hj : i ≠ j := by
    rintro rfl
    rw [h] at e
    cases e
  rw [List.getElem?_set_ne hj]
  exact k.at' j u e
def tComp (σf : St → St) (wi : TI) (g : TG) (tt : TT) (te : TE) : TE := fun σ H Q => wi σ H fun J H1 => ∀ D, H1 D = none → ∃ W : Nat → Nat → List V → Hp → Prop, (∃ m, W 0 m [] (upd H1 D (.lst []))) ∧
  ∀ i m ys H, W i m ys H → H D = some (.lst ys) ∧ ys.length < sizeLine ∧
    ((J.stop i H ∧ Q (.ref D) H) ∨ (J.go i H ∧ ∀ x H', J.yld i H x H' → g x (σf σ) H' fun σ2 H2 => Keep (σf σ) σ2 ∧ tt σ2 H2 fun b H3 =>
      if b = true then te σ2 H3 fun y H4 => H4 D = some (.lst ys) ∧ ∃ m', m' < m ∧ W (i + 1) m' (ys ++ [y]) (upd H4 D (.lst (ys ++ [y]))) else ∃ m', m' < m ∧ W (i + 1) m' ys H3))
theorem pe_comp {X : Cx} {elt tg iter : Expr} {ifs : List Expr} {scope : Scope} {pos : Pos} {N' : List Str} {cl : List (Str × Addr)} {wi : TI} {g : TG} {tt : TT} {te : TE} (σf : St → St)
    (hc : X.calm = true) (hkind : scope.kind = .function) (hcell : ∀ y ∈ scope.names, y.2 ≠ .cell) (hnames : ∀ y ∈ scope.names, y.2 = .local → scope.names.lookup y.1 = some .local) (hcl : ClOk X scope cl)
    (hN : ∀ σ : St, σ.length = X.N.length → BlkN X N' scope cl σ (σf σ)) (hi : PI X tg iter wi)
    (hg : ∀ C s₀ H₀ ex pn, PG (blk X N' scope cl C s₀ H₀ ex pn) tg g) (ht : ∀ C s₀ H₀ ex pn, PIfs (blk X N' scope cl C s₀ H₀ ex pn) ifs tt) (he : ∀ C s₀ H₀ ex pn, PE (blk X N' scope cl C s₀ H₀ ex pn) elt te)
    (hs : ∀ x, foldedSetIterable iter X.env x = pure x := by intro _; rfl) : PE X (.ListComp elt [⟨tg, iter, ifs, 0⟩] scope pos) (tComp σf wi g tt te) := by
  intro pins s σ H Q I h
  rw [eval_ListComp]
  refine wpAny_comprehension_free (use := none) rfl hs hcl.run hkind hnames (thn (hi pins s σ H _ I h) fun v s1 h1 => thn h1 fun itv s2 h2 => ?_)
  obtain ⟨it, fp, tn, J, H2, rfl, I2, T, st2, f2, q⟩ := h2
  refine wpAny_newObj_type (wpAny_newFunctionEnv hcell (by intro y hy; simp at hy) (fun h₁ hns₁ hsb₁ => ?_) hkind)
  dsimp only at hns₁ hsb₁ ⊢
  have hfo : ∀ b ∈ fp, b < s2.heap.objs.size := fun b hb => by
    obtain ⟨o, e, _⟩ := T.obj _ _ st2 b hb
    exact Heap.lt_size e
  have hDf : H2 s2.heap.objs.size = none := I2.hok.fresh (Nat.le_refl _)
  obtain ⟨W, ⟨m0, w0⟩, turn⟩ := q s2.heap.objs.size hDf
  have I3 : Inv X pins σ (upd H2 s2.heap.objs.size (.lst [])) { s2 with heap := s2.heap.push { cls := .type "list", data := .seq ([] : List Value).toArray } } := I2.lnew (its := []) (t' := s2.toks) .nil (Nat.zero_le _)
  have f3 : ∀ b ∈ fp, FpOk X pins (upd H2 s2.heap.objs.size (.lst [])) b := fun b hb => ⟨by rw [upd_ne (Nat.ne_of_lt (hfo b hb))]; exact (f2 b hb).1, (f2 b hb).2⟩
  generalize hD : s2.heap.objs.size = D at *
  generalize hs3 : ({ s2 with heap := s2.heap.push { cls := .type "list", data := .seq ([] : List Value).toArray } } : Shared) = s3 at *
  have hh3 : s3.heap = s2.heap.push { cls := .type "list", data := .seq ([] : List Value).toArray } := by rw [← hs3]
  have hsz3 : s2.heap.objs.size < s3.heap.objs.size := by rw [hh3, Heap.size_push]; exact Nat.lt_succ_self _
  have e3 : ∀ h t, ({ s2 with heap := h, toks := t } : Shared) = { s3 with heap := h, toks := t } := fun h t => by rw [← hs3]
  rw [← hh3] at hns₁ hsb₁ ⊢
  have hk3 : ∀ b o, s3.heap.get? b = some o → h₁.get? b = some o := fun b o e => hsb₁.extBut b o (Nat.ne_of_lt (Heap.lt_size e)) (Heap.get?_push_of_some _ e)
  have I4 := blk_start (t' := s3.toks) I3 hkind hcl (hN σ I.len) f3 (fun b hb => Nat.lt_trans (hfo b hb) (hD ▸ hsz3)) (hns := by simpa using hns₁) hk3
  generalize hB : blk X N' scope cl s3.heap.objs.size s3 (upd H2 D (.lst [])) fp (X.pn ++ pins) = B at *
  have hBp : B.prog = X.prog := by rw [← hB]; rfl
  have hBw : B.w = X.w := by rw [← hB]; rfl
  have hBK : B.K = X.K := by rw [← hB]; rfl
  have hBA : B.A = X.A := by rw [← hB]; rfl
  have hBc : B.calm = true := by rw [← hB]; exact hc
  have hBe : B.env = compEnvC scope cl s3.heap.objs.size X.env := by rw [← hB]; rfl
  have hBx : B.xe = fun _ _ => False := by rw [← hB]; rfl
  have hGB : PG B tg g := hB ▸ hg _ _ _ _ _
  have hTB : PIfs B ifs tt := hB ▸ ht _ _ _ _ _
  have hEB : PE B elt te := hB ▸ he _ _ _ _ _
  have stat : ∀ {H' : Hp}, (∀ b ∈ fp, H' b = none) → ∀ b ∈ fp, FpOk B [] H' b := fun {H'} hn b hb => by
    obtain ⟨f0, f1, f2', f3', f4, f5⟩ := f3 b hb
    rw [← hB]
    refine ⟨hn b hb, Nat.ne_of_lt (Nat.lt_trans (hfo b hb) (hD ▸ hsz3)), fun z => ?_, .inl hb, fun x c e => f4 x c (hcl.sub x c e), fun p hp => ?_⟩
    · rcases List.mem_cons.mp (I.stkSub b z) with z | z
      · exact f1 z
      · exact f2' z
    · rw [show (blk X N' scope cl s3.heap.objs.size s3 (upd H2 D (.lst [])) fp (X.pn ++ pins)).pn = X.pn ++ pins from rfl, List.append_nil] at hp
      exact f5 p hp
  have loop : ∀ s4 : Shared, Inv B [] (σf σ) (upd H2 D (.lst [])) s4 → tn 0 s4.heap →
      codeAny (model X.prog X.w) X.A (.compLoop (.ListComp elt [⟨tg, iter, ifs, 0⟩] scope pos) 0 (.ref it) (.ref D) (compEnvC scope cl s3.heap.objs.size X.env)) (compPost (model X.prog X.w) X.A X.xe none (EP X pins σ Q) (.ref D) s3.heap.objs.size) s4 := by
    intro s4 I4 st4
    refine compLoop_gen (I := fun n s' => ∃ i ys H', Inv B [] (σf σ) H' s' ∧ tn i s'.heap ∧ (∀ b ∈ fp, H' b = none) ∧ W i n ys H') ?_ m0 ⟨0, [], _, I4, st4, fun b hb => (f3 b hb).1, w0⟩
    rintro n s5 ⟨i, ys, H5, I5, st5, fr5, w5⟩
    obtain ⟨hD5, hlen5, alt⟩ := turn i n ys H5 w5
    rcases alt with ⟨stop, qn⟩ | ⟨go, step⟩
    · have z := T.done B hBp hBw hBK hBc i [] s5 (σf σ) H5 (fun _ _ => False) I5 (stat fr5) st5 stop
      rw [hBA] at z
      refine thn z fun r s6 ⟨hr, I6⟩ => ?_
      subst hr
      obtain ⟨m6, hn6, _⟩ := I6.loc
      rw [hBe] at hn6
      refine ⟨m6, hn6, fun h' hs' => ?_⟩
      subst hB
      exact ⟨.ref D, H5, blk_end I3 f3 I6 hs', rfl, qn⟩
    · have z := T.item B hBp hBw hBK hBc i [] s5 (σf σ) H5 (fun _ _ => False) I5 (stat fr5) st5 go
      rw [hBA] at z
      refine thn z fun r s6 ⟨u, hr, h6⟩ => ?_
      subst hr
      refine thn h6 fun _ s7 ⟨x, H7, I7, r7, y7, st7, fr7⟩ => ?_
      have I7' := I7.pinned (stat fr7) (T.obj _ _ st7)
      have z8 := hGB _ s7 (σf σ) H7 x u _ I7' r7 (step x H7 y7)
      rw [hBp, hBw, hBA, hBe, hBx] at z8
      refine thn z8 fun _ s8 ⟨σ8, H8, I8, k8, q8⟩ => ?_
      have z9 := hTB _ s8 σ8 H8 _ I8 q8
      rw [hBp, hBw, hBA, hBe, hBx] at z9
      refine thn z9 fun ok s9 ⟨H9, I9, q9⟩ => ?_
      have again : ∀ {ys' : List V} {H' : Hp} {s' : Shared}, Inv B ([] ++ pinsAt fp s7.heap) σ8 H' s' → (∃ m', m' < n ∧ W (i + 1) m' ys' H') → ∃ m, m < n ∧ ∃ i ys H', Inv B [] (σf σ) H' s' ∧ tn i s'.heap ∧ (∀ b ∈ fp, H' b = none) ∧ W i m ys H' := fun {ys' H' s'} J ⟨m', hm, w'⟩ => by
        refine ⟨m', hm, i + 1, ys', H', J.unpinned.weak k8.len.symm k8.at', T.keep _ _ _ st7 fun b hb o e => (J.pin (b, o) (List.mem_append_right _ (List.mem_append_right _ (mem_pinsAt hb e)))).1, fun b hb => ?_, w'⟩
        obtain ⟨o, e, d⟩ := T.obj _ _ st7 b hb
        exact (J.pin (b, o) (List.mem_append_right _ (List.mem_append_right _ (mem_pinsAt hb e)))).2.1
      cases ok with
      | false => exact again I9 q9
      | true =>
        have z10 := hEB _ s9 σ8 H9 _ I9 q9
        rw [hBp, hBw, hBA, hBe, hBx] at z10
        refine thn z10 fun y10 s10 ⟨y, H10, I10, r10, hD10, q10⟩ => ?_
        have z11 := mt_append (X := B) _ s10 σ8 H10 (.ref D) [y] (.ref D) [y10] (fun _ H' => ∃ m', m' < n ∧ W (i + 1) m' (ys ++ [y]) H') I10 rfl (.cons r10 .nil) ⟨D, ys, y, rfl, rfl, hD10, hlen5, q10⟩
        rw [hBp, hBw, hBA, hBx] at z11
        refine thn z11 fun _ s11 ⟨_, H11, I11, _, q11⟩ => again I11 q11
  have st4 : tn 0 ({ s3 with heap := h₁, toks := s3.toks } : Shared).heap := T.keep _ _ _ st2 fun b hb o e => hk3 b o (by rw [hh3]; exact Heap.get?_push_of_some _ e)
  have L4 := loop _ I4 st4
  subst hs3
  exact codeAny_compStart_list L4 (T.self _ 0 _ _ _ st4 L4)
end L2

namespace L2
open PySem PySem.Spec PyProof.Rows
/-! ### large ints: sizes in bits -/
def Bt (n : Nat) (x : Int) : Prop := x.natAbs < 2 ^ n
theorem Bt.bits {n : Nat} {x : Int} (h : Bt n x) : Builtin.Int.intBits x ≤ n := intBits_le_iff.mpr h
theorem Bt.mono {m n : Nat} {x : Int} (h : Bt m x) (hn : m ≤ n) : Bt n x := Nat.lt_of_lt_of_le h (Nat.pow_le_pow_right (by decide) hn)
theorem log_of {n : Nat} {x : Int} (h : Bt n x) (hp : 0 < x) (hn : n ≤ 9000) : x.natAbs.log2 < 9000 := by
  have : x.natAbs.log2 < n := (Nat.log2_lt (by omega)).mpr h
  omega
def CMulB (i j : Int) : Prop := Bt 1000000 i ∧ Bt 1000000 j
def CDivB (_i j : Int) : Prop := 0 < j ∧ Bt 9000 j
def CPowB (i j : Int) : Prop := 0 ≤ j ∧ j ≤ 1000 ∧ Bt 1000 i
section
variable {X : Cx}
theorem op_mulB : OpR X (binaryOp .Mult) (rI CMulB fun i j => .int (i * j)) := opI fun _ _ _ _ _ _ _ hc q => mul_int q (.of_bits (Nat.le_trans hc.1.bits (by decide)) (Nat.le_trans hc.2.bits (by decide)))
theorem op_fdivB : OpR X (binaryOp .FloorDiv) (rI CDivB fun i j => .int (i / j)) := opI fun i j _ _ _ _ _ hc q => by
  have h1 : (0 : Int) < j := hc.1
  rw [← Int.fdiv_eq_ediv_of_nonneg i (Int.le_of_lt h1)] at q
  exact floordiv_int (by omega) q (.inl (PyProof.noPylong_of_log2 (log_of hc.2 h1 (Nat.le_refl _))))
/-! ### tuples of ints -/
def rEqI (K : PySem.W.Frag) : R2 := fun x y H Q => ∃ a b, ∃ ns ms : List Int, x = .ref a ∧ y = .ref b ∧ SqT K H a (ns.map V.int) ∧ SqT K H b (ms.map V.int) ∧ Q (.bl (decide (ns = ms))) H
def rNeI (K : PySem.W.Frag) : R2 := fun x y H Q => ∃ a b, ∃ ns ms : List Int, x = .ref a ∧ y = .ref b ∧ SqT K H a (ns.map V.int) ∧ SqT K H b (ms.map V.int) ∧ Q (.bl (!decide (ns = ms))) H
theorem nes_at {pins : List (Addr × Obj)} {σ : St} {H : Hp} {s : Shared} (I : Inv X pins σ H s) {A : Around} {a b : Addr} {xs ys : List V} {e : Nat → Bool} (hx : SqT X.K H a xs) (hy : SqT X.K H b ys) (hu : A.units < cLine)
    (hd : ∀ (j : Nat) x y u v, xs[j]? = some x → ys[j]? = some y → RelV x u → RelV y v → SeqAt.EqAt A.in1 s u v (e j)) :
    SeqAt.RcNeAt A s (.ref a) (.ref b) (!((List.range (min xs.length ys.length)).all e && xs.length == ys.length)) := by
  obtain ⟨its, r, tx, _⟩ := I.tuple hx
  obtain ⟨its', r', ty, _⟩ := I.tuple hy
  have l1 := r.length
  have l2 := r'.length
  have q := SeqAt.RcNeAt.tuples (A := A) (e := e) tx ty hu (fun j h1 h2 => ?_)
  · rw [List.size_toArray, List.size_toArray, ← l1, ← l2] at q
    exact q
  · rw [List.size_toArray] at h1 h2
    obtain ⟨x, hxj⟩ : ∃ x, xs[j]? = some x := ⟨_, List.getElem?_eq_getElem (by omega)⟩
    obtain ⟨y, hyj⟩ : ∃ y, ys[j]? = some y := ⟨_, List.getElem?_eq_getElem (by omega)⟩
    obtain ⟨u1, hu1, ru1⟩ := r.get hxj
    obtain ⟨u2, hu2, ru2⟩ := r'.get hyj
    have e1 : its.toArray[j] = u1 := by
      have := (List.getElem?_eq_some_iff.mp hu1).2
      simpa using this
    have e2 : its'.toArray[j] = u2 := by
      have := (List.getElem?_eq_some_iff.mp hu2).2
      simpa using this
    rw [e1, e2]
    exact hd j x y u1 u2 hxj hyj ru1 ru2
theorem op_neT (hu : X.A.units + 64 < cLine) : OpR X (compareOp .NotEq) (rNeT X.K) := by
  intro pins s σ H x y v u Q I rx ry h
  obtain ⟨a, b, xs, ys, e, rfl, rfl, hx, hy, hd, q⟩ := h
  cases rx; cases ry
  exact nes_at I hx hy (by omega) (fun j x y u v h1 h2 r1 r2 => (hd j x y h1 h2).at I (by show X.A.units + 1 + 40 < cLine; omega) r1 r2) X.prog X.w X.xe _ ⟨.bl _, H, I, rfl, q⟩
end
end L2

namespace L2
open PySem PySem.Spec PyProof.Rows
section
variable {X : Cx}
/-- an item of the tuple that a name holds -/
def tIt (K : PySem.W.Frag) (i k : Nat) : TE := fun σ H Q => ∃ p xs v, σ[i]? = some (some (.ref p)) ∧ SqT K H p xs ∧ xs[k]? = some v ∧ Q v H
theorem pit (i k : Nat) {x : Str} {p q : Pos} {j : Nat} (hN : X.N[i]? = some x := by rfl) (hv : Vis X.env.scope x := by first | exact Or.inl rfl | exact Or.inr (Or.inl rfl) | exact Or.inr (Or.inr rfl)) (hd : (x == ("__debug__" : Str)) = false := by decide)
    (hcd : (x == ("__classdict__" : Str)) = false := by decide) {pos : Pos} : PE X (.Subscript (.Name x p) (.Constant (.int (k : Int)) j q) pos) (tIt X.K i k) := by
  intro pins s σ H Q I h
  obtain ⟨a, xs, v, e, hs, hk, q⟩ := h
  exact pe_ix ix_tup (pe_var hN hv hd hcd) pe_int (fun _ _ => rfl) pins s σ H Q I ⟨_, e, a, xs, (k : Int), v, rfl, rfl, hs, atI_nat hk, q⟩
/-- a def of the text that may be called by its name -/
structure Cal (P : Program) (w : World) (K : PySem.W.Frag) (mg : Str → Option Value) (base : Heap) (CX : CXT) (k : Nat) (x : Str) (ps : List Str) (sp : Sp) : Prop where
  ex : ∃ (f : Addr) (fd : FuncData), mg x = some (.ref f) ∧ PySem.W.keepIn K (.ref f) = true ∧ Binds K fd ps [] ∧ FnOk P w K mg base CX k f fd ps sp
theorem pe_cal {CX : CXT} {k : Nat} {x : Str} {ps : List Str} {sp : Sp} {E : XK} {e : Expr} {es : List Expr} {t : TA} {p pos : Pos} (C : Cal X.prog X.w X.K X.mg X.base CX k x ps sp) (hr : Room k X.A) (hg : Gl X x) (hx : Passes CX X E)
    (ha : PA X (e :: es) t) (hdb : (x == ("__debug__" : Str)) = false := by decide) (he : starEach (e :: es) X.env = (false, eval e X.env) :: starEach es X.env := by rfl) (hpl : (backTo pos (starEach es X.env)).any (·.1) = false := by rfl) :
    PE X (.Call (.Name x p) (e :: es) [] pos) (tCall sp [] E t) := by
  obtain ⟨f, fd, hm, hk, hb, F⟩ := C.ex
  exact pe_call F hr hg hm hk hb .nil hx ha hdb he hpl
theorem Cal.mono {P : Program} {w : World} {K : PySem.W.Frag} {mg : Str → Option Value} {base : Heap} {CX : CXT} {j k : Nat} {x : Str} {ps : List Str} {sp : Sp} (C : Cal P w K mg base CX j x ps sp) (h : j ≤ k) : Cal P w K mg base CX k x ps sp := by
  obtain ⟨f, fd, hm, hk, hb, F⟩ := C.ex
  exact ⟨f, fd, hm, hk, hb, F.mono h⟩
end
theorem Same.upd {H : Hp} {a : Addr} {o : HO} (h : H a = none) : Same H (upd H a o) := fun b u e => by
  rw [upd_ne (ne_of_none e h)]
  exact e
/-- a new tuple of ints comes back, all else as it was -/
def RetT (H : Hp) (Q : VK) (ns : List Int) : Prop := ∀ p H', Same H H' → H' p = some (.tup (ns.map V.int)) → Q (.ref p) H'
end L2

namespace L2
open PySem PySem.Spec PyProof.Rows PySem.W
/-- an own class of errors, as the top has made it -/
structure ExK (K : Frag) (C : Addr) : Prop where
  ga : findIn K (.ref C) "__getattribute__" = some (some (.builtin "BaseException.__getattribute__"))
  gt : findIn K (.ref C) "__getattr__" = some none
  cl : findIn K (.ref C) "__class__" = some (some (.builtin "object.__class__"))
  sb : subIn K (.ref C) (.type "BaseException") = some true
  so : subIn K (.ref C) (.type "object") = some true
  ci : (clsIn K C).isSome = true
/-- an object of the class at C stands at a -/
structure ExAt (h : Heap) (a : Addr) (o : Obj) (C : Addr) : Prop where
  at_ : h.get? a = some o
  cls : o.cls = .ref C
theorem ExAt.type {M : Model} {h : Heap} {a C : Addr} {o : Obj} (I : ExAt h a o C) : Looks M h (typeOf (.ref a)) (.ref C) := by
  rw [← I.cls]
  exact (Looks.ld I.at_).andThen .now
section
variable {prog : Program} {w : World} {A : Around} {E : Value → Shared → Prop} {h : Heap} {g : Array GenState} {d : Drawn} {t : Nat} {os : OsState} {a C : Addr} {o : Obj} {K : Frag}
theorem exc_class_get {R : Result → Shared → Prop} (X : K.In h) (F : ExK K C) (I : ExAt h a o C) (hq : R (.ok (.ret (.ref C))) ⟨h, g, d, t, os⟩) :
    codeAny (model prog w) A (.call (.builtin "getset_descriptor.__get__") ⟨[.builtin "object.__class__", .ref a, .ref C], []⟩) R ⟨h, g, d, t, os⟩ := by
  have hT5 : (⟨h, g, d, t, os⟩ : Shared).TypeIs (.builtin "object.__class__") "getset_descriptor" := PySem.F.typeOf_object_class
  have hx := I.at_
  have hc := I.cls
  have L1 := looks_subIn (M := model prog w) X F.so
  rw [← PySem.F.owner_object_class] at L1
  refine codeAny_call_builtin PySem.F.slot_gs_get.plain PySem.F.entry_gs_get (PySem.F.slot_gs_get.check _ _ _ _ _ _ _ _ hT5 (PySem.F.args_gs_get _ _ _) ?_)
  repeat (any_goals (first | assumption | (with_reducible refine wpAny_loadPart_at hx ?_; rw [hc]) | with_reducible refine L1.at ?_ | wp_step))
  refine ⟨Code.quiet_builtin _ (by decide +kernel), codeAny_builtin PySem.F.entry_object_class ?_⟩
  repeat (any_goals (first | assumption | (with_reducible refine wpAny_loadPart_at hx ?_; rw [hc]) | wp_step))
theorem exc_class_entry {tk : Tok} {Q : Fin → Shared → Prop} (X : K.In h) (F : ExK K C) (I : ExAt h a o C) (hq : Q (.done (.ret (.ref C))) ⟨h, g, d, t, os⟩) :
    wpAny (model prog w) A (Builtin.«object.__getattribute__» ⟨[.ref a, .str "__class__" tk], []⟩) Q E ⟨h, g, d, t, os⟩ := by
  have L1 := looks_findIn (M := model prog w) X F.cl
  have hT5 : (⟨h, g, d, t, os⟩ : Shared).TypeIs (.builtin "object.__class__") "getset_descriptor" := PySem.F.typeOf_object_class
  have f5 := PySem.F.typeOf_object_class
  have f6 := PySem.F.slot_gs_get.lookup
  have f7 := PySem.F.slot_gs_set.lookup
  have hx := I.at_
  have hc := I.cls
  repeat (any_goals (first | assumption | (with_reducible refine wpAny_loadPart_at hx ?_; rw [hc]) | with_reducible refine L1.at ?_ | wp_step))
  refine exc_class_get X F I ?_
  repeat (any_goals (first | assumption | wp_step))
theorem exc_check_ga {M : Model} {nameV : Value} {Q : Unit → Shared → Prop} (X : K.In h) (F : ExK K C) (I : ExAt h a o C) (hq : Q () ⟨h, g, d, t, os⟩) : wpAny M A (checkBuiltinCall "BaseException.__getattribute__" ⟨[.ref a, nameV], []⟩) Q E ⟨h, g, d, t, os⟩ := by
  have hk : builtinKind "BaseException.__getattribute__" = some .slot := by decide +kernel
  have hsplit : splitId "BaseException.__getattribute__" = some ("BaseException", "__getattribute__") := by decide +kernel
  have L2' := looks_subIn (M := M) X F.sb
  have ha := PySem.F.args_bexc_ga (.ref a) nameV
  have hx := I.at_
  have hc := I.cls
  simp only [checkBuiltinCall, hk, hsplit]
  refine wpAny_bind ?_
  · unfold isInstance
    repeat (first | (with_reducible refine wpAny_loadPart_at hx ?_; rw [hc]) | with_reducible refine L2'.at ?_ | wp_step)
    exact hq
theorem exc_class_call {tk : Tok} {R : Result → Shared → Prop} (X : K.In h) (F : ExK K C) (I : ExAt h a o C) (hq : R (.ok (.ret (.ref C))) ⟨h, g, d, t, os⟩) :
    codeAny (model prog w) A (.call (.builtin "BaseException.__getattribute__") ⟨[.ref a, .str "__class__" tk], []⟩) R ⟨h, g, d, t, os⟩ :=
  codeAny_call_builtin PySem.F.attr_ValueError.ga.plain PySem.F.entry_bexc_ga (exc_check_ga X F I (exc_class_entry X F I hq))
theorem exc_class_by {tk : Tok} {fill expr : Bool} {Q : Value → Shared → Prop} (X : K.In h) (F : ExK K C) (I : ExAt h a o C) (hq : Q (.ref C) ⟨h, g, d, t, os⟩) :
    wpAny (model prog w) A (getAttrBy (.ref a) (.str "__class__" tk) fill expr) Q E ⟨h, g, d, t, os⟩ := by
  have f3 := PySem.F.attr_ValueError.ga.bind (.ref a)
  have hx0 : (expr && onTheHeap (Value.builtin "BaseException.__getattribute__")) = false := by cases expr <;> rfl
  have hx2 : (Value.builtin "BaseException.__getattribute__" == Value.builtin "object.__getattribute__") = false := by decide +kernel
  have hx1 : (onTheHeap (Value.ref C) && Value.builtin "BaseException.__getattribute__" == Value.builtin "object.__getattribute__") = false := by rw [hx2]; rfl
  have L1 := looks_findIn (M := model prog w) X F.ga
  have L2' := looks_findIn (M := model prog w) X F.gt
  have hx := I.at_
  have hc := I.cls
  repeat (any_goals (first | assumption | (with_reducible refine wpAny_loadPart_at hx ?_; rw [hc]) | with_reducible refine L1.at ?_ | with_reducible refine L2'.at ?_ | wp_step))
  refine exc_class_call X F I ?_
  repeat (any_goals (first | assumption | wp_step))
theorem exc_class_attr {Q : Option Value → Shared → Prop} (X : K.In h) (F : ExK K C) (I : ExAt h a o C) (hq : Q (some (.ref C)) ⟨h, g, d, t + 1, os⟩) :
    wpAny (model prog w) A (getAttr? (.ref a) "__class__") Q E ⟨h, g, d, t, os⟩ := by
  unfold getAttr? getAttrBy?
  repeat (any_goals (first | assumption | with_reducible apply exc_class_by X F I | wp_step))
end
theorem kitx_exc {K : Frag} {a C : Addr} {o : Obj} (F : ExK K C) : KitX K (.ref a) (.ref C) (fun h => ExAt h a o C) where
  ty := fun M h X I => I.type
  it := fun M h X I => by
    have hcD := F.ci
    unfold clsIn at hcD
    split at hcD
    · rename_i c' d' cd' sl' ho
      intro A' Q' E' s' k q
      unfold isType loadHead
      exact wpAny_bind (wpAny_loadPart (k _ _ (X _ _ ho)) (wpAny_pure q))
    · cases hcD
  ne := fun h tp dd its n sl X htp => by
    have hcD := F.ci
    refine Bool.eq_false_iff.mpr fun q => ?_
    have e : C = tp := Value.ref.inj (beq_iff_eq.mp q)
    subst e
    unfold clsIn at hcD
    split at hcD
    · rename_i c' d' cd' sl' ho
      have := X _ _ ho
      rw [htp] at this
      cases this
    · cases hcD
  ca := fun {prog w A E Q s} X I hq => by
    obtain ⟨hh, g, d, t, os⟩ := s
    exact exc_class_attr X F I hq
/-- an object of an own class of errors stands at a: what is tracked of it -/
def excO (a C : Addr) : HO := .ext fun h => ∃ o, ExAt h a o C
section
variable {X : Cx}
end
end L2

namespace L2
open PySem PySem.Spec PyProof.Rows PySem.W
/-! ### an error on its way, with its own dict -/
theorem dict_mf (o : Obj) (f : Array Value → Array Value) : (Obj.mapFields f o).dict = o.dict := by
  unfold Obj.mapFields
  split <;> rfl
/-- an error at e with a traceback, its class, its dict -/
def TrD (h base : Heap) (e : Addr) (cls : Value) (dd : Option Addr) (fl : Value) : Prop :=
  ∃ (ob tb : Obj) (us ts : Array Value) (T : Addr), (h.get? e = some ob ∧ ob.data = .fields us ∧ ob.cls = cls ∧ ob.dict = dd) ∧ us[1]? = some (.ref T) ∧ (base.get? T = none ∧ T ≠ e) ∧ h.get? T = some tb ∧ tb.data = .fields ts ∧ ts[3]? = some fl
structure FlyD (base : Heap) (l : List Env) (e : Addr) (cls : Value) (dd : Option Addr) (fl : Value) (h : Heap) : Prop where
  st : base.StaysIn h
  no : base.get? e = none
  fr : h.FunFrames base l
  tr : TrD h base e cls dd fl
theorem FlyD.at {base h : Heap} {l : List Env} {e : Addr} {cls fl : Value} {dd : Option Addr} (x : FlyD base l e cls dd fl h) : ∃ ob us, h.get? e = some ob ∧ ob.cls = cls ∧ ob.dict = dd ∧ ob.data = .fields us := by
  obtain ⟨ob, _, us, _, _, ⟨a, b, c, d⟩, _⟩ := x.tr
  exact ⟨ob, us, a, c, d, b⟩
section
variable {M : Model} {A : Around} {E : Value → Shared → Prop} {s : Shared} {base : Heap} {env : Env} {outer : List Env} {L e : Addr} {Q : Unit → Shared → Prop} {cls : Value} {dd : Option Addr}
/-- a row of the traceback is laid ahead of the others -/
theorem entryD {ob : Obj} {us : Array Value} {head : Value} {had : Bool} (frs : A.frames = some (env :: outer)) (ff : s.heap.FunFrames base (env :: outer)) (fL : env.frame = some L)
    (ge : s.heap.get? e = some ob) (st : base.StaysIn s.heap) (no : base.get? e = none) (du : ob.data = .fields us) (sz : 1 < us.size)
    (k : ∀ h', FlyD base (env :: outer) e ob.cls ob.dict (rawInt L) h' → s.heap.UpToSlots h' → Q () { s with heap := h' }) :
    wpAny M A (do let fo ← frameOf env; let pl ← entryPlaceOf L had; let row ← EntryCells.newEntry head fo .none (rawInt L) .none pl; setField (.ref e) 1 row) Q E s := by
  have eNot : e ∉ (env :: outer).filterMap (·.frame) := fun mem => by
    obtain ⟨_, o', g', nf⟩ := ff.mem mem
    cases ge.symm.trans g'
    exact nf us du
  refine wpAny_bind (wpAny_frameOf_fun frs ff fL fun h1 only => wpAny_bind (wpAny_entryPlaceOf fun pl plOk => ?_))
  unfold EntryCells.newEntry newFields
  refine wpAny_bind (wpAny_newObj_type ?_ (plOk.sizeOk5 _ _ _ _ _))
  have g1 : h1.get? e = some ob := (only.2.1 e eNot).trans ge
  have st1 : base.StaysIn h1 := fun b o q => (only.2.1 b fun mem => by
    rw [(ff.mem mem).1] at q
    cases q).trans (st b o q)
  generalize hrow : ({ cls := .type "traceback", dict := none, data := .fields ([head, .ref L, .none, rawInt L, .none] ++ (if pl.isEmpty then List.replicate 6 Value.none else pl)).toArray } : Obj) = row
  have g2 : (h1.push row).get? e = some ob := Heap.get?_push_of_some row g1
  have Tne : h1.objs.size ≠ e := Nat.ne_of_gt (Heap.lt_size g1)
  have du' := Obj.data_mapFields du (·.setIfInBounds 1 (Value.ref h1.objs.size))
  have gT : (h1.push row).get? h1.objs.size = some row := Heap.get?_push_size h1 (by rw [← hrow]; rfl)
  have old : ∀ b o, b ≠ e → h1.get? b = some o → ((h1.push row).update e (Obj.mapFields (·.setIfInBounds 1 (Value.ref h1.objs.size)))).get? b = some o := fun b o nb q => by
    rw [Heap.get?_update_other _ _ (Ne.symm nb)]
    exact Heap.get?_push_of_some row q
  have nofld : ∀ b o, s.heap.get? b = some o → (∀ vs, o.data ≠ .fields vs) → b ≠ e := fun b o q nf z => by
    subst z
    cases ge.symm.trans q
    exact nf us du
  refine wpAny_setField g2 du sz (k _ ⟨fun b o q => old b o ?_ (st1 b o q), no, ff.of_keeps fun b o q nf => ?_, ?_⟩ fun b o q nf => ?_)
  · rintro rfl
    rw [no] at q
    cases q
  · obtain ⟨sl, z⟩ := only.2.2 b o q
    exact ⟨_, old b _ (nofld b o q nf) z, rfl⟩
  · refine ⟨_, row, _, ([head, .ref L, .none, rawInt L, .none] ++ (if pl.isEmpty then List.replicate 6 Value.none else pl)).toArray, h1.objs.size, ⟨Heap.get?_update_self _ g2 (Obj.isFreed_of_fields du'), du', Obj.cls_mapFields _ _, dict_mf _ _⟩, by simp [sz], ⟨?_, Tne⟩, ?_, by rw [← hrow], by simp⟩
    · cases z : base.get? h1.objs.size with
      | none => rfl
      | some o => exact absurd (Heap.lt_size (st1 _ _ z)) (Nat.lt_irrefl _)
    · rw [Heap.get?_update_other _ _ (Ne.symm Tne)]
      exact gT
  · obtain ⟨sl, z⟩ := only.2.2 b o q
    exact ⟨sl, old b _ (nofld b o q nf) z⟩
/-- the row's mark goes -/
theorem flightD {l : List Env} {fl : Value} (F : FlyD base l e cls dd fl s.heap) (k : ∀ h', FlyD base l e cls dd .none h' → s.heap.UpToSlots h' → Q () { s with heap := h' }) : wpAny M A (setFlight (.ref e) none) Q E s := by
  obtain ⟨st, no, ff, ob, tb, us, ts, T, ⟨ge, du, cc, cd⟩, u1, ⟨nT, Tne⟩, gT, dt, t3⟩ := F
  unfold setFlight
  refine wpAny_bind (wpAny_field ge du u1 ?_)
  rw [if_pos (show (Value.ref T != Value.none) = true from rfl)]
  have z3 : 3 < ts.size := (Array.getElem?_eq_some_iff.mp t3).1
  have dt' := Obj.data_mapFields dt (·.setIfInBounds 3 ((none : Option Addr).elim Value.none fun f => rawInt f))
  have old : ∀ b, b ≠ T → (s.heap.update T (Obj.mapFields (·.setIfInBounds 3 ((none : Option Addr).elim Value.none fun f => rawInt f)))).get? b = s.heap.get? b := fun b nb => Heap.get?_update_other _ _ (Ne.symm nb)
  have nofld : ∀ b o, s.heap.get? b = some o → (∀ vs, o.data ≠ .fields vs) → b ≠ T := fun b o q nf z => by
    subst z
    cases gT.symm.trans q
    exact nf ts dt
  refine wpAny_setField gT dt z3 (k _ ⟨fun b o q => ?_, no, ff.of_keeps fun b o q nf => ⟨o, (old b (nofld b o q nf)).trans q, rfl⟩, ?_⟩ fun b o q nf => ⟨o.slots, (old b (nofld b o q nf)).trans q⟩)
  · refine (old b ?_).trans (st b o q)
    rintro rfl
    rw [nT] at q
    cases q
  · exact ⟨ob, _, us, _, T, ⟨(old e (Ne.symm Tne)).trans ge, du, cc, cd⟩, u1, ⟨nT, Tne⟩, Heap.get?_update_self _ gT (Obj.isFreed_of_fields dt'), dt', by simp [z3]⟩
/-- a new error is noted -/
theorem note1D {ob : Obj} {us : Array Value} (frs : A.frames = some (env :: outer)) (ff : s.heap.FunFrames base (env :: outer)) (fL : env.frame = some L)
    (ge : s.heap.get? e = some ob) (st : base.StaysIn s.heap) (no : base.get? e = none) (du : ob.data = .fields us) (u1 : us[1]? = some .none)
    (k : ∀ h', FlyD base (env :: outer) e ob.cls ob.dict (rawInt L) h' → s.heap.UpToSlots h' → Q () { s with heap := h' }) : wpAny M A (noteFrame (.ref e) env) Q E s := by
  unfold noteFrame
  simp only [fL]
  refine wpAny_bind (wpAny_field ge du u1 ?_)
  rw [if_neg (by decide)]
  exact entryD frs ff fL ge st no du (Array.getElem?_eq_some_iff.mp u1).1 k
/-- one that is on its way is noted in the next frame -/
theorem noteD (frs : A.frames = some (env :: outer)) (fL : env.frame = some L) (F : FlyD base (env :: outer) e cls dd .none s.heap)
    (k : ∀ h', FlyD base (env :: outer) e cls dd (rawInt L) h' → s.heap.UpToSlots h' → Q () { s with heap := h' }) : wpAny M A (noteFrame (.ref e) env) Q E s := by
  obtain ⟨st, no, ff, ob, tb, us, ts, T, ⟨ge, du, cc, cd⟩, u1, ⟨nT, Tne⟩, gT, dt, t3⟩ := F
  subst cc cd
  unfold noteFrame
  simp only [fL]
  refine wpAny_bind (wpAny_field ge du u1 ?_)
  rw [if_pos (show (Value.ref T != Value.none) = true from rfl)]
  refine wpAny_bind (wpAny_field gT dt t3 ?_)
  rw [if_neg (show ¬ ((Value.none == rawInt L) = true) from by simp [rawInt])]
  have z3 : 3 < ts.size := (Array.getElem?_eq_some_iff.mp t3).1
  have old : ∀ b, b ≠ T → (s.heap.update T (Obj.mapFields (·.setIfInBounds 3 Value.none))).get? b = s.heap.get? b := fun b nb => Heap.get?_update_other _ _ (Ne.symm nb)
  have nofld : ∀ b o, s.heap.get? b = some o → (∀ vs, o.data ≠ .fields vs) → b ≠ T := fun b o q nf z => by
    subst z
    cases gT.symm.trans q
    exact nf ts dt
  refine wpAny_bind (wpAny_setField gT dt z3 ?_)
  refine entryD frs (ff.of_keeps fun b o q nf => ⟨o, (old b (nofld b o q nf)).trans q, rfl⟩) fL ((old e (Ne.symm Tne)).trans ge) (fun b o q => ?_) no du (Array.getElem?_eq_some_iff.mp u1).1 fun h' F' up => k h' F' fun b o q nf => up b o ((old b (nofld b o q nf)).trans q) nf
  refine (old b ?_).trans (st b o q)
  rintro rfl
  rw [nT] at q
  cases q
theorem FlyD.tail {h : Heap} {fl : Value} (F : FlyD base (env :: outer) e cls dd fl h) : FlyD base outer e cls dd fl h := ⟨F.st, F.no, F.fr.2.2, F.tr⟩
/-- a new error leaves the frame in which it was raised -/
theorem leave1D {ob : Obj} {us : Array Value} (frs : A.frames = some (env :: outer)) (ff : s.heap.FunFrames base (env :: outer)) (fL : env.frame = some L)
    (ge : s.heap.get? e = some ob) (st : base.StaysIn s.heap) (no : base.get? e = none) (du : ob.data = .fields us) (u1 : us[1]? = some .none)
    (k : ∀ h', FlyD base outer e ob.cls ob.dict .none h' → s.heap.UpToSlots h' → Q () { s with heap := h' }) : wpAny M A (leaving env (.ref e)) Q E s := by
  unfold leaving
  exact wpAny_bind (note1D frs ff fL ge st no du u1 fun h' F' up => flightD F' fun h'' F'' up' => k h'' F''.tail (up.trans up'))
end
end L2

namespace L2
open PySem PySem.Spec PyProof.Rows PySem.W
/-- an error is under way, with its own dict: what is known behind a call that ended so (s, H: ahead of the call) -/
structure Flx (P : Program) (w : World) (outer : List Env) (H : Hp) (s : Shared) (H' : Hp) (ea : Addr) (cls : Value) (dd : Option Addr) (s' : Shared) : Prop where
  os : s'.os = s.os
  bare : AllBare s'.gens
  un : Un (frs outer) [] H H' s.heap s'.heap
  fl : ∃ B : Heap, HOk P w H' B ∧ FlyD B outer ea cls dd .none s'.heap ∧ (∀ b o, s.heap.get? b = some o → H b = none → b ∉ frs outer → B.get? b = some o) ∧ (∀ b o, s.heap.get? b = some o → b ∉ frs outer → ∃ o', B.get? b = some o')
def CXg (P : Program) (w : World) : CXT := fun outer H s E e s' => ∃ (ea C : Addr) (dd : Option Addr) (H' : Hp), e = .ref ea ∧ Flx P w outer H s H' ea (.ref C) dd s' ∧ E (.ref C) dd H'
/-- a def's body running: it has a frame of its own and nothing that was made ahead of it turns -/
structure OwnF (X : Cx) : Prop where
  stk : X.stack = X.env :: X.outer
  fr : X.env.frame = some X.env.locals
  ex : X.ex = []
section
variable {X : Cx} {pins : List (Addr × Obj)} {σ : St} {H H' : Hp} {s s' : Shared}
theorem notStk (O : OwnF X) (I : Inv X pins σ H s) {b : Addr} {o : Obj} (e : X.s₀.heap.get? b = some o) (hb : b ∉ frs X.outer) : b ∉ frs X.stack := by
  rw [O.stk]
  intro z
  unfold frs at z hb
  rw [List.filterMap_cons, O.fr] at z
  rcases List.mem_cons.mp z with z | z
  · exact absurd (Nat.lt_of_lt_of_le (Heap.lt_size e) I.ok.above) (by rw [z]; exact Nat.lt_irrefl _)
  · exact hb z
theorem inStk (O : OwnF X) {b : Addr} (hb : b ∈ frs X.outer) : b ∈ frs X.stack := by
  rw [O.stk]
  unfold frs at *
  rw [List.filterMap_cons, O.fr]
  exact List.mem_cons_of_mem _ hb
/-- what has stayed, seen from the entry, when the error has left the frame -/
theorem un_of (O : OwnF X) (I : Inv X pins σ H s) {B h' : Heap} (u : Un (frs X.stack) [] H H' s.heap s'.heap) (bk : ∀ b o, X.s₀.heap.get? b = some o → X.H₀ b = none → b ∉ frs X.outer → B.get? b = some o)
    (th : ∀ b o, X.s₀.heap.get? b = some o → b ∉ frs X.outer → ∃ o', B.get? b = some o') (st : B.StaysIn h') (up : s'.heap.UpToSlots h') : Un (frs X.outer) [] X.H₀ H' X.s₀.heap h' := by
  have noex : ∀ b : Addr, b ∉ X.ex := fun b z => by rw [O.ex] at z; cases z
  have slot : ∀ b o, X.s₀.heap.get? b = some o → X.H₀ b = none → b ∈ frs X.outer → ∃ sl, h'.get? b = some { o with slots := sl } := fun b o e n hb => by
    obtain ⟨sl, e1⟩ := I.base.slot b o e n hb (noex b)
    have n1 := I.base.free b o e n (noex b)
    obtain ⟨sl2, e2⟩ := u.slot b _ e1 n1 (inStk O hb) (by simp)
    obtain ⟨_, o', ho', hnf⟩ := I.ok.funs.mem hb
    rw [e] at ho'
    cases ho'
    obtain ⟨sl3, e3⟩ := up b _ e2 (fun vs q => hnf vs q)
    exact ⟨sl3, e3⟩
  refine ⟨fun b o e n hb _ => st b o (bk b o e n hb), fun b o e n hb _ => slot b o e n hb, fun b o e n _ => ?_, fun b o e _ => ?_, fun b xs e => u.tups _ _ (I.base.tups _ _ e), fun b o x e => u.frzs _ _ _ (I.base.frzs _ _ _ e), fun b ps e => ?_⟩
  · obtain ⟨o1, e1⟩ := I.base.there b o e (noex b)
    exact u.free b o1 e1 (I.base.free b o e n (noex b)) (by simp)
  · by_cases hb : b ∈ frs X.outer
    · obtain ⟨sl, q⟩ := slot b o e (I.ok.frf b hb) hb
      exact ⟨_, q⟩
    · obtain ⟨o2, e2⟩ := th b o e hb
      exact ⟨o2, st b o2 e2⟩
  · obtain ⟨m1, e1⟩ := I.base.tbls b ps e
    obtain ⟨m2, e2⟩ := u.tbls _ _ e1
    exact ⟨m1 ++ m2, by rw [e2, Array.append_assoc]⟩
/-- the written part of the heap when the error is raised: all but the frames and the error -/
theorem fly_B (I : Inv X pins σ H s) {ea : Addr} (hea : H ea = none) : HOk X.prog X.w H (hideAll s.heap (ea :: frs X.stack)) := fun a o e => (I.hok a o e).stay (fun b u hb q => hideAll_get _ q fun z => by
  have n : H b = none := by
    rcases List.mem_cons.mp z with z | z
    · rw [z]; exact hea
    · exact I.stkFree b z
  rcases hb with hb | hb
  · rw [← hb] at e; rw [e] at n; cases n
  · rw [hb] at n; cases n) (fun _ h => h) (fun _ _ h => h)
/-- an error that stands there, untracked, leaves the frame -/
theorem fly_raise (O : OwnF X) (I : Inv X pins σ H s) {ea C : Addr} {dd : Option Addr} {ob : Obj} {us : Array Value} {E' : Value → Shared → Prop} {Q : Unit → Shared → Prop} (hea : H ea = none) (n0 : X.s₀.heap.get? ea = none) (ge : s.heap.get? ea = some ob)
    (hc : ob.cls = .ref C) (hdd : ob.dict = dd) (du : ob.data = .fields us) (u1 : us[1]? = some .none)
    (k : ∀ h', Flx X.prog X.w X.outer X.H₀ X.s₀ H ea (.ref C) dd { s with heap := h' } → Q () { s with heap := h' }) : wpAny (model X.prog X.w) X.A (leaving X.env (.ref ea)) Q E' s := by
  have nfr : ea ∉ frs X.stack := fun z => by
    obtain ⟨_, o', ho', hnf⟩ := I.stack.mem z
    rw [ge] at ho'
    cases ho'
    exact hnf us du
  have hin : ∀ env ∈ X.stack, ∀ b, env.frame = some b → b ∈ ea :: frs X.stack := fun env he b hb => List.mem_cons_of_mem _ (List.mem_filterMap.mpr ⟨env, he, hb⟩)
  have hfr : X.A.frames = some (X.env :: X.outer) := by rw [← O.stk]; exact I.ok.frames
  have hl : s.heap.FunFrames (hideAll s.heap (ea :: frs X.stack)) (X.env :: X.outer) := by rw [← O.stk]; exact funFrames_hide I.stack hin
  have nB : (hideAll s.heap (ea :: frs X.stack)).get? ea = none := hideAll_none _ (List.mem_cons_self ..)
  have bk : ∀ b o, X.s₀.heap.get? b = some o → X.H₀ b = none → b ∉ frs X.outer → (hideAll s.heap (ea :: frs X.stack)).get? b = some o := fun b o e n hb => by
    refine hideAll_get _ (I.base.keep b o e n hb (by rw [O.ex]; simp)) fun z => ?_
    rcases List.mem_cons.mp z with z | z
    · rw [z, n0] at e; cases e
    · exact notStk O I e hb z
  have th : ∀ b o, X.s₀.heap.get? b = some o → b ∉ frs X.outer → ∃ o', (hideAll s.heap (ea :: frs X.stack)).get? b = some o' := fun b o e hb => by
    obtain ⟨o1, e1⟩ := I.base.there b o e (by rw [O.ex]; simp)
    refine ⟨o1, hideAll_get _ e1 fun z => ?_⟩
    rcases List.mem_cons.mp z with z | z
    · rw [z, n0] at e; cases e
    · exact notStk O I e hb z
  refine leave1D (base := hideAll s.heap (ea :: frs X.stack)) hfr hl O.fr ge (fun b o q => of_hideAll _ q) nB du u1 fun h' F' up => k h' ⟨I.os, I.bare, ?_, hideAll s.heap (ea :: frs X.stack), fly_B I hea, by rw [← hc, ← hdd]; exact F', bk, th⟩
  exact un_of (s' := s) O I Un.refl bk th F'.st up
end
/-- the body of a def that may raise -/
abbrev cxF (P : Program) (w : World) (K : Frag) (mg : Str → Option Value) (base : Heap) (N : List Str) (qual : Str) (scope : Scope) (f : Addr) (cd : Value) (A : Around) (outer : List Env) (s : Shared) (H : Hp) (E : XK) : Cx := cxOf (CXg P w) P w K mg base N qual scope f cd A outer s H E
section
variable {P : Program} {w : World} {K : Frag} {mg : Str → Option Value} {base : Heap} {N : List Str} {qual : Str} {scope : Scope} {f : Addr} {cd : Value} {A : Around} {outer : List Env} {s : Shared} {H : Hp} {E : XK}
theorem ownF_of : OwnF (cxF P w K mg base N qual scope f cd A outer s H E) := ⟨rfl, rfl, rfl⟩
/-- an error that stands there, untracked, leaves -/
def XeOk (X : Cx) (E : XK) : Prop := ∀ (pins : List (Addr × Obj)) (σ : St) (H : Hp) (s : Shared) (ea C : Addr) (ob : Obj) (us : Array Value), Inv X pins σ H s → H ea = none → X.s₀.heap.get? ea = none → s.heap.get? ea = some ob → ob.cls = .ref C → ob.data = .fields us → us[1]? = some .none → E (.ref C) ob.dict H → X.xe (.ref ea) s
theorem xe_f : XeOk (cxF P w K mg base N qual scope f cd A outer s H E) E := by
  intro pins σ Hc sc ea C ob us I hea n0 ge hc du u1 hE
  exact fly_raise (X := cxF P w K mg base N qual scope f cd A outer s H E) ownF_of I hea n0 ge hc rfl du u1 fun h'' F' => ⟨ea, C, ob.dict, Hc, rfl, F', hE⟩
end
end L2

namespace L2
open PySem PySem.Spec PyProof.Rows PySem.W
/-- the class that an except names -/
structure CtK (K : Frag) (D : Addr) : Prop where
  ty : typeIn K (.ref D) = some (.type "type")
  ci : (clsIn K D).isSome = true
  sb : subIn K (.ref D) (.type "BaseException") = some true
theorem exc_matches {M : Model} {A : Around} {E : Value → Shared → Prop} {h : Heap} {g : Array GenState} {d : Drawn} {t : Nat} {os : OsState} {e C D : Addr} {o : Obj} {K : Frag} {Q : Bool → Shared → Prop} (X : K.In h) (I : ExAt h e o C) (F : CtK K D) (hs : subIn K (.ref C) (.ref D) = some true)
    (hq : Q true ⟨h, g, d, t, os⟩) : wpAny M A (excMatches (.ref e) (.ref D)) Q E ⟨h, g, d, t, os⟩ := by
  have L1 := looks_typeIn (M := M) X F.ty
  have L2' : Looks M h (isType (.ref D)) true := by
    have hcD := F.ci
    unfold clsIn at hcD
    split at hcD
    · rename_i c' d' cd' sl' ho
      intro A' Q' E' s' k q
      unfold isType loadHead
      exact wpAny_bind (wpAny_loadPart (k _ _ (X _ _ ho)) (wpAny_pure q))
    · cases hcD
  have L3 := looks_subIn (M := M) X F.sb
  have L4 := looks_subIn (M := M) X hs
  have L5 := I.type (M := M)
  have f := tc_notTuple
  unfold excMatches isInstance
  repeat (first | with_reducible refine L1.at ?_ | with_reducible refine L2'.at ?_ | with_reducible refine L3.at ?_ | with_reducible refine L4.at ?_ | with_reducible refine L5.at ?_ | wp_step)
  exact hq
/-! ### raise -/
abbrev bmV : List Value := [.type "ValueError", .type "Exception", .type "BaseException", .type "object"]
structure ClsObj (h : Heap) (C : Addr) (bmB : List Value) (newId : String) : Prop where
  ex : ∃ (nm q : Str) (N : Addr) (bs bm : List Value) (hdct : Bool) (sn : List Str) (sub : List Value) (ab : Bool) (col : Option Bool) (dd : Option Addr) (k0 k1 k2 k3 k5 : Option Value) (mN : Str → Option Value),
    h.get? C = some (excClassObj nm q C N bs bm hdct sn sub ab col dd k0 k1 k2 k3 k5 newId) ∧ h.Ns N mN ∧ mN "__init__" = none ∧ OwnTail h bmB bm
theorem objThere {P : Program} {w : World} {H : Hp} {h : Heap} {a : Addr} {o : HO} (x : ObjOk P w H h a o) : ∃ ob, h.get? a = some ob := by
  cases o with
  | lst xs => obtain ⟨_, _, _, _, e⟩ := x; exact ⟨_, e⟩
  | tup xs => obtain ⟨_, _, _, ob, e, _⟩ := x; exact ⟨_, e⟩
  | dK kvs => obtain ⟨_, _, _, _, ob, _, _, e, _⟩ := x; exact ⟨_, e⟩
  | dT kvs => obtain ⟨_, _, _, _, ob, _, _, e, _⟩ := x; exact ⟨_, e⟩
  | set S n => obtain ⟨ob, _, _, _, e, _⟩ := x; exact ⟨_, e⟩
  | ins C dx fs => obtain ⟨_, _, _, e, _⟩ := x; exact ⟨_, e⟩
  | own y => obtain ⟨_, e⟩ := x; exact ⟨_, e⟩
  | xd fs => obtain ⟨_, ⟨_, _, _, e, _⟩, _⟩ := x; exact ⟨_, e⟩
  | rng lo hi => obtain ⟨_, _, _, e⟩ := x; exact ⟨_, e⟩
  | frz ob u => obtain ⟨e, _⟩ := x; exact ⟨_, e⟩
  | tbl ps => exact ⟨_, (show h.get? a = some _ from x)⟩
  | met f y => exact ⟨_, (show h.get? a = some _ from x)⟩
  | ext φ => obtain ⟨_, ⟨_, e⟩, _⟩ := x; exact ⟨_, e⟩
/-- an error of the class at C that was caught, its dict -/
def excD (a C : Addr) (dd : Option Addr) : HO := .ext fun h => ∃ o, ExAt h a o C ∧ o.dict = dd ∧ ∃ us, o.data = .fields us
theorem Inv.absent0 {X : Cx} {pins : List (Addr × Obj)} {σ : St} {H : Hp} {s : Shared} (I : Inv X pins σ H s) {e : Addr} (hex : X.ex = []) (n : s.heap.get? e = none) : X.s₀.heap.get? e = none := by
  cases q : X.s₀.heap.get? e with
  | none => rfl
  | some o =>
    obtain ⟨ob, z⟩ := I.base.there e o q (by rw [hex]; simp)
    rw [n] at z
    cases z
def tRaise (C : Addr) (E : XK) (t : TA) : TS := fun _ σ H => t σ H fun vs H1 => vs.length ≤ sizeLine ∧ E (.ref C) none H1
section
variable {X : Cx}
/-- isinstance of such an object, against an own class or a built-in one -/
theorem call_isiY : CallR X (.builtin "isinstance") (fun xs H Q => ∃ a C dd c v b, xs = [.ref a, v] ∧ H a = some (excD a C dd) ∧ ExK X.K C ∧ RelV v c ∧ kitOne X.K (.ref C) c = some b ∧ Q (.bl b) H) := by
  intro pins s σ H xs us Q I r h
  obtain ⟨a, C, dd, c, v, b, rfl, hH, F, rc, hk, q⟩ := h
  obtain ⟨u, w', rfl, rx, ry⟩ := vals2 r
  cases rx
  obtain ⟨⟨o, hi, _⟩, _⟩ := I.hok a _ hH
  have e : w' = c := by
    have := ry
    cases v with
    | ref z => cases ry; cases rc; rfl
    | ty z => cases ry; cases rc; rfl
    | non => cases ry; cases rc; rfl
    | bl z => cases ry; cases rc; rfl
    | int z => obtain ⟨_, rfl⟩ := rc; simp [kitOne, kitCls] at hk
    | str z => obtain ⟨_, rfl⟩ := rc; simp [kitOne, kitCls] at hk
    | byt z => obtain ⟨_, rfl⟩ := rc; simp [kitOne, kitCls] at hk
    | flt z => obtain ⟨_, rfl⟩ := rc; simp [kitOne, kitCls] at hk
  subst e
  exact kia_one (kitx_exc F) I.kIn hi hk (by intro z; cases z) fun tk => ⟨.bl b, H, I.tok _, rfl, q⟩
end
/-- within an except suite, from which nothing is raised -/
abbrev Cx.within (X : Cx) (v : Value) : Cx := { X with A := X.A.mark (some v), calm := false, xe := fun _ _ => False }
/-- within a try: what is wanted of an error, and pins that every state bears -/
abbrev Cx.trying (X : Cx) (pins : List (Addr × Obj)) (E : Value → Shared → Prop) : Cx := { X with pn := X.pn ++ pins, xe := E }
section
variable {X : Cx} {pins : List (Addr × Obj)} {σ : St} {H H' : Hp} {s s' : Shared}
theorem Inv.within (I : Inv X pins σ H s) (v : Value) : Inv (X.within v) pins σ H s :=
  ⟨⟨I.ok.mod, I.ok.kind, I.ok.glob, I.ok.blt, I.ok.above, I.ok.inj, I.ok.has, I.ok.cab, (fun h => (by cases h)), I.ok.frames, I.ok.stk, I.ok.exf, I.ok.bs, I.ok.bsz, I.ok.noex, I.ok.exfs, I.ok.funs, I.ok.frf⟩, I.os, I.bare, I.base, I.loc, I.cell, I.free, I.freeC, I.pin, I.hok, I.len⟩
theorem Inv.without {v : Value} (ok : X.Ok) (I : Inv (X.within v) pins σ H s) : Inv X pins σ H s := ⟨ok, I.os, I.bare, I.base, I.loc, I.cell, I.free, I.freeC, I.pin, I.hok, I.len⟩
theorem Inv.trying (I : Inv X pins σ H s) (E : Value → Shared → Prop) : Inv (X.trying pins E) [] σ H s :=
  ⟨⟨I.ok.mod, I.ok.kind, I.ok.glob, I.ok.blt, I.ok.above, I.ok.inj, I.ok.has, I.ok.cab, I.ok.hd, I.ok.frames, I.ok.stk, I.ok.exf, I.ok.bs, I.ok.bsz, I.ok.noex, I.ok.exfs, I.ok.funs, I.ok.frf⟩, I.os, I.bare, I.base, I.loc, I.cell, I.free, I.freeC, fun p hp => I.pin p (by rwa [List.append_nil] at hp), I.hok, I.len⟩
theorem Inv.tried {E : Value → Shared → Prop} {pl : List (Addr × Obj)} (I : Inv (X.trying pins E) pl σ H s) : Inv X pins σ H s :=
  ⟨⟨I.ok.mod, I.ok.kind, I.ok.glob, I.ok.blt, I.ok.above, I.ok.inj, I.ok.has, I.ok.cab, I.ok.hd, I.ok.frames, I.ok.stk, I.ok.exf, I.ok.bs, I.ok.bsz, I.ok.noex, I.ok.exfs, I.ok.funs, I.ok.frf⟩, I.os, I.bare, I.base, I.loc, I.cell, I.free, I.freeC, fun p hp => I.pin p (List.mem_append_left _ hp), I.hok, I.len⟩
theorem SP.tried {E : Value → Shared → Prop} {D : Ends} {f : Flow} (h : SP (X.trying pins E) [] D f s) : SP X pins D f s := by
  cases f with
  | next => obtain ⟨σ', H', I, q⟩ := h; exact ⟨σ', H', I.tried, q⟩
  | brk => obtain ⟨σ', H', I, q⟩ := h; exact ⟨σ', H', I.tried, q⟩
  | cont => obtain ⟨σ', H', I, q⟩ := h; exact ⟨σ', H', I.tried, q⟩
  | ret u => obtain ⟨v, σ', H', I, r, q⟩ := h; exact ⟨v, σ', H', I.tried, r, q⟩
/-- a thing that stands there is tracked from now on -/
theorem Inv.track (I : Inv X pins σ H s) {a : Addr} {u : HO} (hn : H a = none) (h0 : X.s₀.heap.get? a = none) (hL : a ≠ X.env.locals) (hc : ∀ x c, X.env.cells.lookup x = some c → c ≠ a) (hp : ∀ p ∈ X.pn ++ pins, p.1 ≠ a)
    (ok : ObjOk X.prog X.w (upd H a u) s.heap a u) : Inv X pins σ (upd H a u) s := by
  have old : ∀ b o, X.s₀.heap.get? b = some o → b ≠ a := fun b o e z => by rw [z, h0] at e; cases e
  have trk : ∀ b o, H b = some o → b ≠ a := fun b o e => ne_of_none e hn
  refine ⟨I.ok, I.os, I.bare, ⟨I.base.keep, I.base.slot, fun b o e n hx => ?_, I.base.there, fun b xs e => ?_, fun b o x e => ?_, fun b ps e => ?_⟩, I.loc, I.cell, ?_, fun x c e => ?_, fun p q => ?_, fun b o e => ?_, I.len⟩
  · rw [upd_ne (old b o e)]
    exact I.base.free b o e n hx
  · have z := I.base.tups b xs e
    rw [upd_ne (trk _ _ z)]
    exact z
  · have z := I.base.frzs b o x e
    rw [upd_ne (trk _ _ z)]
    exact z
  · obtain ⟨m, z⟩ := I.base.tbls b ps e
    exact ⟨m, by rw [upd_ne (trk _ _ z)]; exact z⟩
  · rw [upd_ne (Ne.symm hL)]
    exact I.free
  · rw [upd_ne (hc x c e)]
    exact I.freeC x c e
  · obtain ⟨a1, a2, a3⟩ := I.pin p q
    exact ⟨a1, by rw [upd_ne (hp p q)]; exact a2, a3⟩
  · by_cases hb : b = a
    · subst hb
      rw [upd_same] at e
      cases e
      exact ok
    · rw [upd_ne hb] at e
      exact (I.hok b o e).stay (fun _ _ _ q => q) (fun c q => by rw [upd_ne (trk _ _ q)]; exact q) (fun c xs q => by rw [upd_ne (trk _ _ q)]; exact q)
/-- what has stayed when the error is looked at in this frame -/
theorem un_here (I : Inv X pins σ H s) {B h' : Heap} (u : Un (frs X.stack) [] H H' s.heap s'.heap) (bk : ∀ b o, s.heap.get? b = some o → H b = none → b ∉ frs X.stack → B.get? b = some o)
    (th : ∀ b o, s.heap.get? b = some o → b ∉ frs X.stack → ∃ o', B.get? b = some o') (st : B.StaysIn h') (up : s'.heap.UpToSlots h') : Un (frs X.stack) [] H H' s.heap h' := by
  have slot : ∀ b o, s.heap.get? b = some o → H b = none → b ∈ frs X.stack → ∃ sl, h'.get? b = some { o with slots := sl } := fun b o e n hb => by
    obtain ⟨sl, e1⟩ := u.slot b o e n hb (by simp)
    obtain ⟨_, o', ho', hnf⟩ := I.stack.mem hb
    rw [e] at ho'
    cases ho'
    obtain ⟨sl3, e3⟩ := up b _ e1 (fun vs q => hnf vs q)
    exact ⟨sl3, e3⟩
  refine ⟨fun b o e n hb _ => st b o (bk b o e n hb), fun b o e n hb _ => slot b o e n hb, u.free, fun b o e _ => ?_, u.tups, u.frzs, u.tbls⟩
  by_cases hb : b ∈ frs X.stack
  · obtain ⟨sl, q⟩ := slot b o e (I.stkFree b hb) hb
    exact ⟨_, q⟩
  · obtain ⟨o2, e2⟩ := th b o e hb
    exact ⟨o2, st b o2 e2⟩
/-- the name of an except goes -/
theorem name_gone {M : Model} {A : Around} {E : Value → Shared → Prop} {i : Nat} {n : Str} {pos : Pos} {Q : Unit → Shared → Prop} (I : Inv X pins σ H s) (hN : X.N.Nodup) (hi : X.N[i]? = some n) (hk : X.env.scope.names.lookup n = some .local)
    (h : ∀ s', Inv X pins (σ.set i none) H s' → Q () s') : wpAny M A (do bindName X.env n .none; unbindBehindTheSuite X.env n pos) Q E s := by
  obtain ⟨m, hn, hl⟩ := id I.loc
  have hcls : (X.env.scope.kind == .class || (X.env.scope.kind == .module && X.env.locals != X.env.globals)) = false := by rw [I.ok.kind]; rfl
  have hiσ : i < σ.length := by rw [I.len]; exact (List.getElem?_eq_some_iff.mp hi).1
  refine wpAny_nameGoes_keeps hk hn hcls fun h' v hn' hs => ?_
  have ne : ∀ b o, X.s₀.heap.get? b = some o → b ≠ X.env.locals := fun b o e => Nat.ne_of_lt (Nat.lt_of_lt_of_le (Heap.lt_size e) I.ok.above)
  refine h _ ⟨I.ok, I.os, I.bare, ⟨fun b o e n hb hx => (hs.2 b (ne b o e)).trans (I.base.keep b o e n hb hx), fun b o e n hb hx => ?_, I.base.free, fun b o e hx => ?_, I.base.tups, I.base.frzs, I.base.tbls⟩, ⟨_, hn', fun j y v' e1 e2 e3 => ?_⟩, fun y c e => ?_, I.free, I.freeC, fun p hp => ?_, fun b ob e => ?_, by rw [List.length_set]; exact I.len⟩
  · obtain ⟨sl, e1⟩ := I.base.slot b o e n hb hx
    exact ⟨sl, (hs.2 b (ne b o e)).trans e1⟩
  · obtain ⟨o', e1⟩ := I.base.there b o e hx
    exact ⟨o', (hs.2 b (ne b o e)).trans e1⟩
  · by_cases hj : j = i
    · subst hj
      rw [List.getElem?_set_self hiσ] at e2
      cases e2
    · rw [List.getElem?_set_ne (Ne.symm hj)] at e2
      obtain ⟨u', r', q⟩ := hl j y v' e1 e2 e3
      refine ⟨u', r', ?_⟩
      rcases q with ⟨k, e⟩ | ⟨k, c, e, z⟩
      · refine .inl ⟨k, ?_⟩
        have ny : y ≠ n := fun e => hj (nodup_ix hN e1 (e ▸ hi))
        simp [ny, e]
      · exact .inr ⟨k, c, e, z.sameBut hs (I.cne y c e)⟩
  · obtain ⟨v', q⟩ := I.cell y c e
    exact ⟨v', q.sameBut hs (I.cne y c e)⟩
  · obtain ⟨a1, a2, a3, a4⟩ := I.pin p hp
    exact ⟨(hs.2 p.1 a3).trans a1, a2, a3, a4⟩
  · refine (I.hok b ob e).stay (fun c w' hc q => (hs.2 c ?_).trans q) (fun _ q => q) fun _ _ q => q
    intro z
    rw [z] at hc
    rcases hc with hc | hc
    · rw [← hc, I.free] at e
      cases e
    · rw [I.free] at hc
      cases hc
/-- an error of the body is caught under the name n and kept under the name y (slot j) -/
def tTry (K : Frag) (N j : Nat) (Dc : Addr) (tb : XK → TS) : TS := fun D σ H => tb (fun cls dd H' => ∃ C, cls = .ref C ∧ ExK K C ∧ subIn K (.ref C) (.ref Dc) = some true ∧ ∀ a, H' a = none → D.nx ((List.replicate N none).set j (some (.ref a))) (upd H' a (excD a C dd))) D σ H
theorem ps_try {body : List Stmt} {tb : XK → TS} {d n y : Str} {dp np py apos hpos pos : Pos} {i j : Nat} {Dc : Addr} (O : OwnF X) (hg : Gl X d) (hm : X.mg d = some (.ref Dc)) (F : CtK X.K Dc) (hN : X.N.Nodup) (hi : X.N[i]? = some n)
    (hki : X.env.scope.names.lookup n = some .local) (hj : X.N[j]? = some y) (hkj : X.env.scope.names.lookup y = some .local) (hij : i ≠ j)
    (hb : ∀ (pins : List (Addr × Obj)) (E' : Value → Shared → Prop) (Ec : XK), Passes (CXg X.prog X.w) (X.trying pins E') Ec → PSs (X.trying pins E') body (tb Ec))
    (hdb : (d == ("__debug__" : Str)) = false := by decide) (hnb : (n == ("__debug__" : Str)) = false := by decide) (hnc : (n == ("__classdict__" : Str)) = false := by decide)
    (hs : swapsWith (.Name n np) (some (.Name y py)) apos.line X.env = pure false := by rfl) :
    PS X (.Try body [.ExceptHandler (some (.Name d dp)) (some n) [.Assign [.Name y py] (.Name n np) apos] hpos] [] [] pos) (tTry X.K X.N.length j Dc tb) := by
  intro pins s σ H D I h
  refine wpAny_Try_except (wpAny_mono (hb pins _ _ ?hp [] s σ H D (I.trying _) h) (fun f s1 z => ?_) fun _ _ z => z)
  case hp =>
    intro pl σ' Hc sc e s' I0 hx
    have I1 : Inv X pins σ' Hc sc := I0.tried
    obtain ⟨ea, C, dd, H', rfl, Fl, C', e1, FK, hsub, hk⟩ := hx
    cases e1
    obtain ⟨B, hok, fl, bk, th⟩ := Fl.fl
    have hfr : X.A.frames = some (X.env :: X.outer) := by rw [← O.stk]; exact I1.ok.frames
    have fl' : FlyD B (X.env :: X.outer) ea (.ref C) dd .none s'.heap := by rw [← O.stk]; exact fl
    have hBe : B.get? ea = none := fl.no
    refine noteD hfr O.fr fl' fun h4 held4 up4 => ?_
    refine flightD held4 fun h5 fl5 up5 => ?_
    have mk : ∀ h6 : Heap, B.StaysIn h6 → s'.heap.UpToSlots h6 → Inv X pins σ' H' { s' with heap := h6 } := fun h6 st up =>
      I1.call' (s' := { s' with heap := h6 }) (ch := []) Fl.os (un_here I1 Fl.un bk th st up) (hok.kept st) Fl.bare (by simp)
    have I5 := mk h5 fl5.st (up4.trans up5)
    obtain ⟨ob, _, hob, hobc, _, _⟩ := fl5.at
    refine wpAny_handleBy_cons (codeAny_handlers_test (ld_glob (I5.within (.ref ea)) hg hm ?_ hdb)) (by intro q; cases q)
    refine exc_matches I5.kIn ⟨hob, hobc⟩ F hsub ?_
    refine codeAny_handlers_suite_as ?_
    refine flightD fl5 fun h6 fl6 up6 => ?_
    have I6 := mk h6 fl6.st ((up4.trans up5).trans up6)
    obtain ⟨ob6, ws, hob6, hobc6, hobdd, hobd6⟩ := fl6.at
    -- the error stood nowhere ahead of the call
    have nfr : ea ∉ frs X.stack := fun z => by
      obtain ⟨_, o', ho', hnf⟩ := I6.stack.mem z
      rw [hob6] at ho'
      cases ho'
      exact hnf ws hobd6
    have nsc : sc.heap.get? ea = none := by
      cases q : sc.heap.get? ea with
      | none => rfl
      | some o =>
        obtain ⟨o', e'⟩ := th ea o q nfr
        rw [hBe] at e'
        cases e'
    have nH : H' ea = none := by
      cases q : H' ea with
      | none => rfl
      | some o =>
        exfalso
        have lt := hok.lt q
        obtain ⟨o', e'⟩ : ∃ o', B.get? ea = some o' := by
          exact objThere (hok ea o q)
        rw [hBe] at e'
        cases e'
    have n0 : X.s₀.heap.get? ea = none := by
      cases q : X.s₀.heap.get? ea with
      | none => rfl
      | some o =>
        obtain ⟨o', e'⟩ := I1.base.there ea o q (by rw [O.ex]; simp)
        rw [nsc] at e'
        cases e'
    have nL : ea ≠ X.env.locals := fun z => by
      obtain ⟨m, ⟨oL, _, _, hoL, _⟩, _⟩ := I1.loc
      rw [← z, nsc] at hoL
      cases hoL
    have I7 : Inv X pins σ' (upd H' ea (excD ea C dd)) { s' with heap := h6 } := I6.track nH n0 nL
      (fun x c q z => by obtain ⟨v, o, ho, _⟩ := I1.cell x c q; rw [z, nsc] at ho; cases ho)
      (fun p q z => by have := (I1.pin p q).1; rw [z, nsc] at this; cases this)
      ⟨⟨ob6, ⟨hob6, hobc6⟩, hobdd, _, hobd6⟩, ⟨ob6, hob6⟩, fun h1 h2 ⟨o, ho, hd⟩ k => ⟨o, ⟨k o ho.at_, ho.cls⟩, hd⟩⟩
    have J := I7.within (.ref ea)
    refine store_ok (X := X.within (.ref ea)) J hN hi (.inl hki) (show RelV (.ref ea) (.ref ea) from rfl) (fun s8 I8 => ?_) (.inr hki)
    have hiσ : i < σ'.length := by rw [I1.len]; exact (List.getElem?_eq_some_iff.mp hi).1
    have z := pss_one (ps_set (X := X.within (.ref ea)) (pos := apos) (pos' := py) (i := j) hN hj (.inl hkj) (pe_var (X := X.within (.ref ea)) (pos := np) hi (.inl hki) hnb hnc) hs (.inr hkj)) pins s8 (σ'.set i (some (.ref ea))) (upd H' ea (excD ea C dd))
      { nx := fun σ9 H9 => σ9 = (σ'.set i (some (.ref ea))).set j (some (.ref ea)) ∧ H9 = upd H' ea (excD ea C dd), rt := fun _ _ => False } I8 ⟨_, List.getElem?_set_self hiσ, rfl, rfl⟩
    refine wpAny_mono z (fun f s9 hf => ?_) (fun _ _ q => q.elim)
    cases f with
    | next =>
      obtain ⟨σ9, H9, I9, rfl, rfl⟩ := hf
      refine name_gone (I9.without I1.ok) hN hi hki fun s10 I10 => ?_
      refine ⟨(List.replicate X.N.length none).set j (some (.ref ea)), _, I10.weak ?_ ?_, hk ea nH⟩
      · simp [I1.len]
      · intro q v hq
        by_cases hqj : q = j
        · subst hqj
          have hjl : q < σ'.length := by rw [I1.len]; exact (List.getElem?_eq_some_iff.mp hj).1
          rw [List.getElem?_set_self (by simp; rw [← I1.len]; exact hjl)] at hq
          rw [List.getElem?_set_ne hij, List.getElem?_set_self (by simpa using hjl)]
          exact hq
        · rw [List.getElem?_set_ne (Ne.symm hqj), List.getElem?_replicate] at hq
          split at hq <;> cases hq
    | brk => obtain ⟨_, _, _, q⟩ := hf; exact q.elim
    | cont => obtain ⟨_, _, _, q⟩ := hf; exact q.elim
    | ret u => obtain ⟨_, _, _, _, _, q⟩ := hf; exact q.elim
  · have z' := SP.tried z
    cases f with
    | next => exact wpAny_execs_nil z'
    | brk => exact z'
    | cont => exact z'
    | ret u => exact z'
end
end L2

namespace L2
open PySem PySem.Spec PyProof.Rows PySem.W
/-! ### an own class of errors with an __init__ of its own -/
/-- the class at C stands under the one at P, which stands under ValueError; its __init__ is the def at f -/
def xiIn (K : Frag) (C P f : Addr) : Bool := match K.lookup C with
  | some ⟨.type "type", _, .cls cd, sl⟩ => (match cd.mro, sl.toList with
    | .ref C' :: .ref P' :: bm, [_, _, _, _, some (.builtin n), _] => C' == C && P' == P && n == "ValueError.__new__" && !cd.hasDel && cd.hasDict && tailIn K bmV (.ref P' :: bm) && nsOkIn K cd.ns && nsIn K cd.ns "__init__" == some (some (.ref f)) && bm == bmV
    | _, _ => false)
  | _ => false
structure ClsI (h : Heap) (C P f : Addr) : Prop where
  ex : ∃ (nm q : Str) (N : Addr) (bs : List Value) (sn : List Str) (sub : List Value) (ab : Bool) (col : Option Bool) (dd : Option Addr) (k0 k1 k2 k3 k5 : Option Value) (mN : Str → Option Value),
    h.get? C = some (excClassObj nm q C N bs (.ref P :: bmV) true sn sub ab col dd k0 k1 k2 k3 k5 "ValueError.__new__") ∧ h.Ns N mN ∧ mN "__init__" = some (.ref f) ∧ OwnTail h bmV (.ref P :: bmV)
theorem nsMap_some_of_in {K : Frag} {h : Heap} {N : Addr} {x : Str} {v : Value} (X : K.In h) (hok : nsOkIn K N = true) (e : nsIn K N x = some (some v)) : h.nsMap N x = some v := by
  have G : h.Ns N (h.nsMap N) := .of_isNs (isNs_of_in X hok)
  obtain ⟨o, es, ep, ho, hd, _, hf⟩ := G
  unfold nsIn at e
  split at e
  · rename_i c d es' n' sl q
    have z := X _ _ q
    rw [ho] at z
    cases z
    cases hd
    split at e
    · rename_i en he
      cases e
      rw [← hf]
      unfold nsFind findBy
      rw [← Array.find?_toList, he]
      rfl
    · split at e <;> cases e
  · cases e
theorem clsI_of {K : Frag} {h : Heap} {C P f : Addr} (X : K.In h) (q : xiIn K C P f = true) : ClsI h C P f := by
  unfold xiIn at q
  split at q
  case h_2 => cases q
  case h_1 dd cd sl ho =>
    split at q
    case h_2 => cases q
    case h_1 C' P' bm k0 k1 k2 k3 n k5 hm hs =>
      simp only [Bool.and_eq_true, beq_iff_eq, Bool.not_eq_true'] at q
      obtain ⟨⟨⟨⟨⟨⟨⟨⟨e1, e0⟩, e2⟩, hdel⟩, hdi⟩, ht⟩, hok⟩, hni⟩, e3⟩ := q
      cases e1
      cases e0
      cases e2
      cases e3
      obtain ⟨nm, bs, mro, ns, qn, hd, sn, sub, ab, col, del⟩ := cd
      obtain ⟨sl⟩ := sl
      dsimp only at hm hdel hok hni hs hdi
      subst hm hdel hs hdi
      exact ⟨nm, qn, ns, bs, sn, sub, ab, col, dd, k0, k1, k2, k3, k5, _, X _ _ ho, .of_isNs (isNs_of_in X hok), nsMap_some_of_in X hok hni, tail_of_in X ht⟩
section
variable {prog : Program} {w : World} {A : Around} {E : Value → Shared → Prop} {h : Heap} {g : Array GenState} {d : Drawn} {t : Nat} {os : OsState} {K : Frag} {C P f : Addr}
/-- what stands there when __init__ is called -/
abbrev excNew (h : Heap) (C : Addr) (rest : List Value) : Heap := (h.push { cls := .type "tuple", data := .seq rest.toArray }).push { cls := .ref C, data := .fields #[.ref h.objs.size, .none, .none, .none, .bool false, .none] }
theorem exi_type_call {rest : List Value} {Q : Fin → Shared → Prop} (X : K.In h) (I : ClsI h C P f) (hf : typeIn K (.ref f) = some (.type "function")) (hrest : rest.length ≤ sizeLine)
    (hq : codeAny (model prog w) A (.call (.ref f) ⟨.ref (h.objs.size + 1) :: rest, []⟩) (fun r s' => match r with
      | .ok (.ret v) => v = .none ∧ Q (.done (.ret (.ref (h.objs.size + 1)))) s'
      | .ok _ => False
      | .error e => E e s') ⟨excNew h C rest, g, d, t, os⟩) :
    wpAny (model prog w) A (Builtin.«type.__call__» ⟨.ref C :: rest, []⟩) Q E ⟨h, g, d, t, os⟩ := by
  obtain ⟨nm, q, N, bs, sn, sub, ab, col, dd, k0, k1, k2, k3, k5, mN, hC, hn, hni, T⟩ := I.ex
  have F := PySem.F.excBase_ValueError
  repeat (first | with_reducible refine wpAny_loadPart_at hC ?_ | with_reducible refine wpAny_madeBy_exc hC ?_ | wp_step)
  refine codeAny_call_builtin_code (Code.quiet_builtin _ F.quiet) (wpAny_check_new_subU F F.hasB T hC ?_)
  refine codeAny_exc_new_subU F F.hasB F T hC ?_ hrest
  show wpAny _ _ _ _ _ _
  have keep : ∀ b o, h.get? b = some o → (excNew h C rest).get? b = some o := fun b o e => Heap.get?_push_of_some _ (Heap.get?_push_of_some _ e)
  have hC1 := keep _ _ hC
  have hn1 : (excNew h C rest).Ns N mN := hn.keeps keep
  have hget : (excNew h C rest).get? (h.objs.size + 1) = some { cls := .ref C, data := .fields #[.ref h.objs.size, .none, .none, .none, .bool false, .none] } := by unfold excNew; heap_get
  have hcC : (Value.ref C :: Value.ref P :: bmV).contains (.ref C) = true := by simp
  have T1 := T.keeps keep
  have B1 := bind_fn (M := model prog w) (X.keeps keep) (.ref (h.objs.size + 1)) hf
  unfold isInstance
  repeat (first | with_reducible refine wpAny_loadPart_at hget ?_ | (with_reducible refine wpAny_isSubtype_exc hC1 ?_; rw [hcC]) | wp_step)
  show wpAny _ _ (typeLookup (.ref C) _) _ _ _
  refine wpAny_typeLookup_tail hC1 hn1 T1 F.mroIs F.init.lookup ?_
  rw [hni]
  refine wpAny_holding (wpAny_bind (B1.at ?_))
  refine wpAny_bind (wpAny_call (codeAny_mono hq fun r s' z => ?_))
  cases r with
  | error e => exact z
  | ok fl =>
    cases fl with
    | ret v =>
      obtain ⟨rfl, z⟩ := z
      exact wpAny_pure (wpAny_pure z)
    | next => exact z.elim
    | brk => exact z.elim
    | cont => exact z.elim
theorem exi_call {rest : List Value} {R : Result → Shared → Prop} (X : K.In h) (I : ClsI h C P f) (hf : typeIn K (.ref f) = some (.type "function")) (hrest : rest.length ≤ sizeLine)
    (hq : codeAny (model prog w) (A.under (.builtin "type.__call__" ⟨.ref C :: rest, []⟩)) (.call (.ref f) ⟨.ref (h.objs.size + 1) :: rest, []⟩) (InitBack (h.objs.size + 1) R) ⟨excNew h C rest, g, d, t, os⟩) :
    codeAny (model prog w) A (.call (.ref C) ⟨rest, []⟩) R ⟨h, g, d, t, os⟩ := by
  obtain ⟨nm, q, N, bs, sn, sub, ab, col, dd, k0, k1, k2, k3, k5, mN, hC, hn, hni, T⟩ := id I.ex
  have f1 := tc_lookup
  have f2 := tc_bind (.ref C)
  have hT : (⟨h, g, d, t, os⟩ : Shared).TypeIs (.ref C) "type" := ⟨_, hC, rfl⟩
  refine codeAny_of_tree ?_
  show wpAny _ _ (callAny (.ref C) _) _ _ _
  repeat (any_goals (first | assumption | with_reducible refine wpAny_loadPart_at hC ?_ | wp_step))
  refine ⟨rfl, ?_⟩
  refine codeAny_call_builtin_at (Code.quiet_builtin _ (by decide +kernel)) entry_typeCall (wpAny_check_type_call_sub hC (exi_type_call X I hf hrest (codeAny_mono hq fun r s' z => ?_)))
  cases r with
  | error e => exact z
  | ok fl =>
    cases fl with
    | ret v => exact z
    | next => exact z.elim
    | brk => exact z.elim
    | cont => exact z.elim
end
end L2

namespace L2
open PySem PySem.Spec PyProof.Rows PySem.W
/-- an error that is being made, or was made and is not raised yet: its class, its dict -/
def exN (a C : Addr) (dd : Option Addr) : HO := .ext fun h => ∃ o t, (h.get? a = some o ∧ o.cls = .ref C ∧ o.dict = dd) ∧ o.data = .fields #[t, .none, .none, .none, .bool false, .none]
/-- what is no more tracked -/
def rem (H : Hp) (a : Addr) : Hp := fun b => if b = a then none else H b
theorem rem_ne {H : Hp} {a b : Addr} (h : b ≠ a) : rem H a b = H b := by unfold rem; rw [if_neg h]
theorem rem_same {H : Hp} {a : Addr} : rem H a a = none := by unfold rem; rw [if_pos rfl]
section
variable {X : Cx} {pins : List (Addr × Obj)} {σ : St} {H : Hp} {s : Shared}
theorem Inv.drop (I : Inv X pins σ H s) {a : Addr} {φ : Heap → Prop} (ha : H a = some (.ext φ)) : Inv X pins σ (rem H a) s := by
  have nn : ∀ b, H b = none → rem H a b = none := fun b h => by
    by_cases z : b = a
    · rw [z]; exact rem_same
    · rw [rem_ne z]; exact h
  have oo : ∀ b o, H b = some o → (∀ ψ, o ≠ .ext ψ) → rem H a b = some o := fun b o h n => by
    by_cases z : b = a
    · subst z; rw [h] at ha; cases ha; exact absurd rfl (n φ)
    · rw [rem_ne z]; exact h
  refine ⟨I.ok, I.os, I.bare, ⟨I.base.keep, I.base.slot, fun b o e n hx => nn b (I.base.free b o e n hx), I.base.there, fun b xs e => oo b _ (I.base.tups b xs e) (fun _ z => by cases z), fun b o x e => oo b _ (I.base.frzs b o x e) (fun _ z => by cases z), fun b ps e => ?_⟩, I.loc, I.cell, nn _ I.free, fun x c e => nn _ (I.freeC x c e), fun p hp => ?_, fun b o e => ?_, I.len⟩
  · obtain ⟨m, z⟩ := I.base.tbls b ps e
    exact ⟨m, oo b _ z (fun _ q => by cases q)⟩
  · obtain ⟨a1, a2, a3⟩ := I.pin p hp
    exact ⟨a1, nn _ a2, a3⟩
  · by_cases z : b = a
    · rw [z, rem_same] at e; cases e
    · rw [rem_ne z] at e
      exact (I.hok b o e).stay (fun _ _ _ q => q) (fun c q => oo c _ q (fun _ z => by cases z)) (fun c xs q => oo c _ q (fun _ z => by cases z))
theorem Inv.exnew (I : Inv X pins σ H s) (C : Addr) (us : List Value) : Inv X pins σ (upd H (s.heap.objs.size + 1) (exN (s.heap.objs.size + 1) C none)) { s with heap := excNew s.heap C us } := by
  refine I.laid (a := s.heap.objs.size + 1) (t' := s.toks) (fun b u e => Heap.get?_push_of_some _ (Heap.get?_push_of_some _ e)) (Nat.le_succ _) ?_
  have hget : (excNew s.heap C us).get? (s.heap.objs.size + 1) = some { cls := .ref C, data := .fields #[.ref s.heap.objs.size, .none, .none, .none, .bool false, .none] } := by unfold excNew; heap_get
  exact ⟨⟨_, _, ⟨hget, rfl, rfl⟩, rfl⟩, ⟨_, hget⟩, fun h1 h2 ⟨o, t, ⟨e1, e2, e3⟩, e4⟩ k => ⟨o, t, ⟨k o e1, e2, e3⟩, e4⟩⟩
theorem raise_made {M : Model} {A : Around} {E : Value → Shared → Prop} {env : Env} {x : Sem Value} {C : Addr} {K : Frag} {s : Shared} {Q : Flow → Shared → Prop} (hh : A.handled = none) (F : ExK K C) (hk : ∃ oC, K.lookup C = some oC ∧ oC.cls = .type "type")
    (h : wpAny M A x (fun v s₁ => K.In s₁.heap ∧ ∃ e ob us, v = .ref e ∧ s₁.heap.get? e = some ob ∧ ob.cls = .ref C ∧ ob.data = .fields us ∧ us[1]? = some .none ∧ E (.ref e) s₁) E s) : wpAny M A (raiseStmt env (some x) none) Q E s := by
  unfold raiseStmt
  refine wpAny_bind (wpAny_mono h (fun v s₁ h₁ => ?_) fun _ _ x => x)
  obtain ⟨KX, e, ob, us, rfl, he, hc, hd, h1, hE⟩ := h₁
  obtain ⟨hp, g, d, tk, os⟩ := s₁
  have L1 := looks_subIn (M := M) KX F.sb
  obtain ⟨⟨cC, dC, tC, sC⟩, hkC, hkc⟩ := hk
  have hC := KX _ _ hkC
  dsimp only at hkc
  subst hkc
  obtain ⟨oc, od, odt, osl⟩ := ob
  dsimp only at hc hd
  subst hc hd
  have h1' := h1
  repeat (first | with_reducible refine wpAny_loadPart_at he ?_ | with_reducible refine wpAny_loadPart_at hC ?_ | with_reducible refine L1.at ?_ | wp_step)
  rw [h1]
  refine wpAny_pure ?_
  rw [if_neg (by decide)]
  exact wpAny_pure (wpAny_raiseNew_none hh hE)
end
theorem xiIn_obj {K : Frag} {C P f : Addr} (q : xiIn K C P f = true) : ∃ oC, K.lookup C = some oC ∧ oC.cls = .type "type" := by
  unfold xiIn at q
  split at q
  · rename_i ho
    exact ⟨_, ho, rfl⟩
  · cases q
/-- an own class of errors with an __init__, as the top made it -/
structure ExI (K : Frag) (C P f : Addr) : Prop where
  xi : xiIn K C P f = true
  fn : typeIn K (.ref f) = some (.type "function")
  kp : keepIn K (.ref C) = true
  k : ExK K C
/-- raise C(..): the error is made, __init__ runs, it leaves -/
def tRaiseI (C : Addr) (sp : Sp) (E : XK) (t : TA) : TS := fun _ σ H => t σ H fun vs H1 => vs.length ≤ sizeLine ∧ ∀ e, H1 e = none →
  sp (.ref e :: vs) (upd H1 e (exN e C none)) (fun v H2 => v = .non ∧ ∃ dd, H2 e = some (exN e C dd) ∧ E (.ref C) dd (rem H2 e)) E0
section
variable {X : Cx}
theorem ps_raiseI {x : Str} {C P f : Addr} {fd : FuncData} {ps : List Str} {sp : Sp} {k : Nat} {e₀ : Expr} {es : List Expr} {t : TA} {E : XK} {np cpos pos : Pos} (hex : X.ex = []) (hX : XeOk X E) (hc : X.calm = true) (hr : Room (k + 1) X.A) (hg : Gl X x) (hm : X.mg x = some (.ref C)) (hei : ExI X.K C P f)
    (F : FnOk X.prog X.w X.K X.mg X.base CX0 k f fd ps sp) (hb : Binds X.K fd ps []) (ha : PA X (e₀ :: es) t)
    (hdb : (x == ("__debug__" : Str)) = false := by decide) (he : starEach (e₀ :: es) X.env = (false, eval e₀ X.env) :: starEach es X.env := by rfl) (hpl : (backTo cpos (starEach es X.env)).any (·.1) = false := by rfl) :
    PS X (.Raise (some (.Call (.Name x np) (e₀ :: es) [] cpos)) none pos) (tRaiseI C sp E t) := by
  intro pins s σ H D I h
  rw [arm_exec_Raise]
  refine wpAny_bind (wpAny_standAt (raise_made (C := C) (K := X.K) (I.ok.hd hc) hei.k (xiIn_obj hei.xi) ?_))
  refine wpAny_bind (thn (Q := fun v s₁ => X.K.In s₁.heap ∧ ∃ e ob us, v = Value.ref e ∧ s₁.heap.get? e = some ob ∧ ob.cls = .ref C ∧ ob.data = .fields us ∧ us[1]? = some .none ∧ X.xe (.ref e) s₁) ?_ fun v s1 q => wpAny_bind (wpAny_standAt (wpAny_pure q)))
  refine wpAny_Call_Name_kw (ld_glob I hg hm ?_ hdb)
  refine PySem.W.callWith_K (h₀ := X.base) I.ok.mod.kin hei.kp (thn (ha cpos pins s σ H _ I h) fun us s1 ⟨vs, H1, I1, r, hl, q⟩ => ⟨I1.kIn, ?_⟩) he hpl
  have hn : H1 (s1.heap.objs.size + 1) = none := I1.hok.fresh (Nat.le_succ _)
  have hq := q (s1.heap.objs.size + 1) hn
  have I2 := I1.exnew C us
  have r2 : Vals (V.ref (s1.heap.objs.size + 1) :: vs) (Value.ref (s1.heap.objs.size + 1) :: us) := .cons rfl r
  have hlen : (Value.ref (s1.heap.objs.size + 1) :: us ++ []).length = ps.length := by
    have e := r2.length
    rw [F.len _ _ _ _ hq] at e
    rw [List.append_nil]
    exact e.symm
  have n0 : X.s₀.heap.get? (s1.heap.objs.size + 1) = none := I1.absent0 hex (Heap.get?_none_of_le (Nat.le_succ _))
  obtain ⟨hh, g, d, tk, os⟩ := s1
  refine wpAny_call (exi_call (f := f) (P := P) I1.kIn (clsI_of I1.kIn hei.xi) hei.fn (by show us.length ≤ sizeLine; rw [← r.length]; exact hl) (codeAny_mono (F.run _ X.stack _ _ ⟨Value.ref (hh.objs.size + 1) :: us, []⟩ (Value.ref (hh.objs.size + 1) :: us) _ _ E0 (hr.make C us [])
    (I2.env0.make C us []) (by have z := hb _ (Value.ref (hh.objs.size + 1) :: us) I2.kIn hlen; rw [List.append_nil] at z; exact z) r2 hq) fun r s' hq' => ?_))
  cases r with
  | error e => exact hq'.elim
  | ok fl =>
    cases fl with
    | ret u =>
      obtain ⟨v, H', I3, rv, ev, dd, hd, hE⟩ := I2.after hq'
      subst ev
      refine ⟨rv, ?_⟩
      obtain ⟨⟨o, t', ⟨o1, o2, o3⟩, o4⟩, _⟩ := I3.hok _ _ hd
      exact ⟨I3.kIn, _, o, _, rfl, o1, o2, o4, rfl, hX pins σ _ s' _ C o _ (I3.drop hd) rem_same n0 o1 o2 o4 rfl (by rw [o3]; exact hE)⟩
    | next => exact hq'.elim
    | brk => exact hq'.elim
    | cont => exact hq'.elim
end
end L2

namespace L2
open PySem PySem.Spec PyProof.Rows PySem.W PySem.Builtin PySem.Builtin.ObjectAttr
theorem refuse_exc (self : Value) : refuseLoop self "__setattr__" bmV = pure () := by
  kernel_rfl
section
variable {prog : Program} {w : World} {A : Around} {E : Value → Shared → Prop} {h : Heap} {g : Array GenState} {d : Drawn} {t : Nat} {os : OsState} {K : Frag} {C P f a : Addr} {o : Obj} {name : Str} {v : Value}
/-- e.name = v, up to the store itself -/
theorem exi_set_open {Q : Unit → Shared → Prop} (X : K.In h) (I : ClsI h C P f) (F : ExK K C) (sa : findIn K (.ref C) "__setattr__" = some (some (.builtin "object.__setattr__"))) (nn : findIn K (.ref C) name = some none) (O : ExAt h a o C)
    (hq : ∀ A' tk, wpAny (model prog w) A' (storeInOwnDict (.ref a) (.ref C) (.str name tk) name v false) (fun fin s' => ∃ u, fin = .done (.ret u) ∧ Q () s') (fun _ _ => False) ⟨h, g, d, t + 1, os⟩) :
    wpAny (model prog w) A (setAttr (.ref a) name v) Q E ⟨h, g, d, t, os⟩ := by
  obtain ⟨nm, q, N, bs, sn, sub, ab, col, dd, k0, k1, k2, k3, k5, mN, hC, hn, hni, T⟩ := I.ex
  have SF := PySem.F.store_object
  have L1 := O.type (M := model prog w)
  have L2' := looks_findIn (M := model prog w) X sa
  have L3 := looks_findIn (M := model prog w) X nn
  have L4 : Looks (model prog w) h (isInstance (.ref a) (.type "object")) true := L1.andThen (looks_subIn X F.so)
  refine wpAny_bind (wpAny_mkText (wpAny_bind (wpAny_bind (wpAny_bind (L1 _ _ _ _ (fun _ _ e => e) (L2' _ _ _ _ (fun _ _ e => e) (wpAny_holding ?_)))))))
  rw [SF.slot.bind]
  refine wpAny_bind (wpAny_pure (wpAny_bind (wpAny_call ?_)))
  refine codeAny_call_builtin SF.slot.plain SF.entry (@check_slot (model prog w) _ _ _ "object.__setattr__" "object" "__setattr__" (.ref a) [.str name t, v] [] _ SF.kind SF.split L4 (SF.args (.ref a) (.str name t) v) ?_)
  show wpAny _ _ (Builtin.«object.__setattr__» ⟨[.ref a, .str name t, v], []⟩) _ _ _
  rw [osa_eq, refuse_eq]
  refine wpAny_bind (wpAny_bind (L1.here (wpAny_bind (wpAny_mroOf_exc hC ?_))))
  rw [refuseLoop_ref, refuseLoop_ref, refuse_exc]
  refine wpAny_pure (wpAny_bind (L1.here (wpAny_bind (L3.here (wpAny_bind (wpAny_pure ?_))))))
  refine wpAny_mono (hq _ t) (fun fin s' z => ?_) fun _ _ z => z.elim
  obtain ⟨u, rfl, z⟩ := z
  exact wpAny_pure (wpAny_pure z)
theorem idict_new {Q : Option Addr → Shared → Prop} (I : ClsI h C P f) (O : ExAt h a o C) (hd : o.dict = none) {us : Array Value} (hf : o.data = .fields us)
    (hq : Q (some h.objs.size) ⟨(h.push { cls := .type "dict", data := .dict #[] }).update a fun ob => { ob with dict := some h.objs.size }, g, d, t, os⟩) : wpAny (model prog w) A (instanceDict a true) Q E ⟨h, g, d, t, os⟩ := by
  obtain ⟨nm, q, N, bs, sn, sub, ab, col, dd, k0, k1, k2, k3, k5, mN, hC, hn, hni, T⟩ := I.ex
  have hx := O.at_
  obtain ⟨oc, od, odt, osl⟩ := o
  have hc := O.cls
  dsimp only at hd hf hc
  subst hd hf hc
  have hx1 : (h.push { cls := .type "dict", data := .dict #[] }).get? a = some ⟨.ref C, none, .fields us, osl⟩ := Heap.get?_push_of_some _ hx
  unfold instanceDict
  repeat (first | with_reducible refine wpAny_loadPart_at hx ?_ | with_reducible refine wpAny_loadPart_at hC ?_ | wp_step)
  exact hq
theorem idict_old {Q : Option Addr → Shared → Prop} {dx : Addr} (I : ClsI h C P f) (O : ExAt h a o C) (hd : o.dict = some dx) (hq : Q (some dx) ⟨h, g, d, t, os⟩) (b : Bool) : wpAny (model prog w) A (instanceDict a b) Q E ⟨h, g, d, t, os⟩ := by
  obtain ⟨nm, q, N, bs, sn, sub, ab, col, dd, k0, k1, k2, k3, k5, mN, hC, hn, hni, T⟩ := I.ex
  have hx := O.at_
  obtain ⟨oc, od, odt, osl⟩ := o
  have hc := O.cls
  dsimp only at hd hc
  subst hd hc
  unfold instanceDict
  repeat (first | with_reducible refine wpAny_loadPart_at hx ?_ | with_reducible refine wpAny_loadPart_at hC ?_ | wp_step)
  exact hq
/-- the store into a dict -/
theorem store_in {Q : Fin → Shared → Prop} {dx : Addr} {mA : Str → Option Value} {ns : List Str} {tk : Tok} (hn : h.Ns1 dx mA) (hw : Within mA ns) (hz : ns.length ≤ 100)
    (hq : ∀ h' tk', h'.Ns1 dx (fun y => if y = name then some v else mA y) → (∀ b ob, b ≠ dx → h.get? b = some ob → h'.get? b = some ob) → Q (.done (.ret .none)) ⟨h', g, d, tk', os⟩) :
    wpAny (model prog w) A (storeInDict dx (.str name tk) name v) Q E ⟨h, g, d, t, os⟩ := by
  unfold storeInDict newKeyGuard
  refine wpAny_bind (wpAny_pure (wpAny_bind (wpAny_nsSet1 hn fun h' hn' hs => ?_)))
  obtain ⟨oD, esD, epD, hoD, hdD, hcD⟩ := hn'.count (Within.cons name v hw)
  refine wpAny_bind (wpAny_lookBehind hoD (by rw [hdD]; exact pastItsLine_dict (Nat.le_trans hcD (by rw [List.length_cons, sizeLine_eq]; omega))) ?_)
  exact wpAny_pure (hq h' _ hn' fun b ob nb q => (hs.2 b nb).trans q)
/-- the first attribute: its dict is made -/
theorem exi_set_new {Q : Unit → Shared → Prop} (X : K.In h) (I : ClsI h C P f) (F : ExK K C) (sa : findIn K (.ref C) "__setattr__" = some (some (.builtin "object.__setattr__"))) (nn : findIn K (.ref C) name = some none) (O : ExAt h a o C) (hd : o.dict = none) {us : Array Value} (hf : o.data = .fields us)
    (hq : ∀ h' tk, h'.Ns1 h.objs.size (fun y => if y = name then some v else none) → h'.get? a = some { o with dict := some h.objs.size } → (∀ b ob, b ≠ a → h.get? b = some ob → h'.get? b = some ob) → Q () ⟨h', g, d, tk, os⟩) :
    wpAny (model prog w) A (setAttr (.ref a) name v) Q E ⟨h, g, d, t, os⟩ := by
  refine exi_set_open X I F sa nn O fun A' tk => ?_
  have hx := O.at_
  have ne : a ≠ h.objs.size := Nat.ne_of_lt (Heap.lt_size hx)
  have hx1 : (h.push { cls := .type "dict", data := .dict #[] }).get? a = some o := Heap.get?_push_of_some _ hx
  unfold storeInOwnDict
  refine wpAny_bind (wpAny_pure ?_)
  show wpAny _ _ (ownDictForStores (.ref a) >>= _) _ _ _
  refine wpAny_bind (idict_new I O hd hf ?_)
  have hgd : ((h.push { cls := .type "dict", data := .dict #[] }).update a fun ob => { ob with dict := some h.objs.size }).get? h.objs.size = some { cls := .type "dict", data := .dict #[] } :=
    (Heap.get?_update_other _ _ ne).trans (Heap.get?_push_at rfl rfl)
  have hga : ((h.push { cls := .type "dict", data := .dict #[] }).update a fun ob => { ob with dict := some h.objs.size }).get? a = some { o with dict := some h.objs.size } := by
    refine Heap.get?_update_self _ hx1 ?_
    obtain ⟨oc, od, odt, osl⟩ := o
    dsimp only at hf
    subst hf
    rfl
  have hnd : ((h.push { cls := .type "dict", data := .dict #[] }).update a fun ob => { ob with dict := some h.objs.size }).Ns h.objs.size (fun _ => none) := ⟨_, #[], _, hgd, rfl, fun e he => absurd he (by simp), fun _ => rfl⟩
  refine store_in (Heap.Ns1.of_empty hnd) (ns := []) Within.nil (by decide) fun h' tk' hn' hk => ⟨_, rfl, hq h' tk' hn' (hk a _ ne hga) fun b ob nb q => hk b ob (Nat.ne_of_lt (Heap.lt_size q)) ?_⟩
  exact (Heap.get?_update_other _ _ (Ne.symm nb)).trans (Heap.get?_push_of_some _ q)
/-! ### e.name -/
theorem exi_get_entry {tk : Tok} {dx : Addr} {mA : Str → Option Value} {Q : Fin → Shared → Prop} (X : K.In h) (I : ClsI h C P f) (nn : findIn K (.ref C) name = some none) (O : ExAt h a o C) (hd : o.dict = some dx) {us : Array Value} (hf : o.data = .fields us) (hn : h.Ns dx mA) (hv : mA name = some v)
    (hq : Q (.done (.ret v)) ⟨h, g, d, t, os⟩) : wpAny (model prog w) A (Builtin.«object.__getattribute__» ⟨[.ref a, .str name tk], []⟩) Q E ⟨h, g, d, t, os⟩ := by
  have L1 := O.type (M := model prog w)
  have L3 := looks_findIn (M := model prog w) X nn
  have hx := O.at_
  have hc := O.cls
  refine wpAny_bind (wpAny_pure (wpAny_bind (wpAny_pure ?_)))
  refine wpAny_bind (L1.here (wpAny_bind ?_))
  unfold find
  refine wpAny_bind (L3.here ?_)
  refine wpAny_bind (wpAny_pure ?_)
  refine wpAny_bind (wpAny_pure ?_)
  unfold ownThenClass inOwnDict ObjectAttr.ownDict
  refine wpAny_bind (wpAny_bind ?_)
  refine wpAny_bind (wpAny_loadPart_at hx ?_)
  rw [hf]
  refine idict_old I O hd ?_ false
  refine wpAny_nsGet hn ?_
  rw [hv]
  exact wpAny_bind (wpAny_rule (wpAny_pure (wpAny_pure hq)))
theorem exi_get_call {tk : Tok} {dx : Addr} {mA : Str → Option Value} {R : Result → Shared → Prop} (X : K.In h) (I : ClsI h C P f) (F : ExK K C) (nn : findIn K (.ref C) name = some none) (O : ExAt h a o C) (hd : o.dict = some dx) {us : Array Value} (hf : o.data = .fields us) (hn : h.Ns dx mA) (hv : mA name = some v)
    (hq : R (.ok (.ret v)) ⟨h, g, d, t, os⟩) : codeAny (model prog w) A (.call (.builtin "BaseException.__getattribute__") ⟨[.ref a, .str name tk], []⟩) R ⟨h, g, d, t, os⟩ :=
  codeAny_call_builtin PySem.F.attr_ValueError.ga.plain PySem.F.entry_bexc_ga (exc_check_ga X F O (exi_get_entry X I nn O hd hf hn hv hq))
theorem exi_get_by {tk : Tok} {fill expr : Bool} {dx : Addr} {mA : Str → Option Value} {Q : Value → Shared → Prop} (X : K.In h) (I : ClsI h C P f) (F : ExK K C) (nn : findIn K (.ref C) name = some none) (O : ExAt h a o C) (hd : o.dict = some dx) {us : Array Value} (hf : o.data = .fields us) (hn : h.Ns dx mA) (hv : mA name = some v) (hh : handedIn v = true)
    (hq : Q v ⟨h, g, d, t, os⟩) : wpAny (model prog w) A (getAttrBy (.ref a) (.str name tk) fill expr) Q E ⟨h, g, d, t, os⟩ := by
  have f3 := PySem.F.attr_ValueError.ga.bind (.ref a)
  have hx0 : (expr && onTheHeap (Value.builtin "BaseException.__getattribute__")) = false := by cases expr <;> rfl
  have hx2 : (Value.builtin "BaseException.__getattribute__" == Value.builtin "object.__getattribute__") = false := by decide +kernel
  have hx1 : (onTheHeap (Value.ref C) && Value.builtin "BaseException.__getattribute__" == Value.builtin "object.__getattribute__") = false := by rw [hx2]; rfl
  have L1 := looks_findIn (M := model prog w) X F.ga
  have L2' := looks_findIn (M := model prog w) X F.gt
  have hx := O.at_
  have hc := O.cls
  repeat (any_goals (first | assumption | (with_reducible refine wpAny_loadPart_at hx ?_; rw [hc]) | with_reducible refine L1.at ?_ | with_reducible refine L2'.at ?_ | wp_step))
  refine exi_get_call X I F nn O hd hf hn hv ?_
  repeat (any_goals (first | assumption | exact handed_on hh hq | wp_step))
end
/-! ### in the layer -/
/-- what the top made of a class of errors with fields: no attribute of the class has a field's name -/
structure ExF (K : Frag) (C P f : Addr) (x : Str) : Prop where
  i : ExI K C P f
  sa : findIn K (.ref C) "__setattr__" = some (some (.builtin "object.__setattr__"))
  nn : findIn K (.ref C) x = some none
/-- the dict of an error -/
def xdE (a : Addr) (fs : List (Str × V)) : HO := .ext fun h => ∃ mA, h.Ns1 a mA ∧ (∀ g, RelO (fs.lookup g) (mA g)) ∧ Within mA (fs.map (·.1))
theorem xdE_ok {P : Program} {w : World} {H : Hp} {h : Heap} {a : Addr} {fs : List (Str × V)} {mA : Str → Option Value} (n : h.Ns1 a mA) (r : ∀ g, RelO (fs.lookup g) (mA g)) (wi : Within mA (fs.map (·.1))) : ObjOk P w H h a (xdE a fs) := by
  obtain ⟨o, es, ep, e, q⟩ := id n
  exact ⟨⟨mA, n, r, wi⟩, ⟨o, e⟩, fun h1 h2 ⟨m, n1, r1, w1⟩ k => ⟨m, n1.at k, r1, w1⟩⟩
theorem exN_ok {P : Program} {w : World} {H : Hp} {h : Heap} {a C : Addr} {dd : Option Addr} {o : Obj} {t : Value} (e : h.get? a = some o) (c : o.cls = .ref C) (dq : o.dict = dd) (fd : o.data = .fields #[t, .none, .none, .none, .bool false, .none]) : ObjOk P w H h a (exN a C dd) :=
  ⟨⟨o, t, ⟨e, c, dq⟩, fd⟩, ⟨o, e⟩, fun h1 h2 ⟨o, t, ⟨e1, e2, e3⟩, e4⟩ k => ⟨o, t, ⟨k o e1, e2, e3⟩, e4⟩⟩
section
variable {X : Cx} {pins : List (Addr × Obj)} {σ : St} {H : Hp} {s : Shared} {o e value : Expr} {x : Str} {pos pos' : Pos} {ta tv : TE} {C P f : Addr}
/-- a thing that was not there ahead is tracked -/
theorem Inv.trackNew {s' : Shared} {H' : Hp} (I : Inv X pins σ H s) (I' : Inv X pins σ H' s') {a : Addr} {u : HO} (hex : X.ex = []) (n : s.heap.get? a = none) (hn : H' a = none) (ok : ObjOk X.prog X.w (upd H' a u) s'.heap a u) : Inv X pins σ (upd H' a u) s' := by
  refine I'.track hn (I.absent0 hex n) (fun z => ?_) (fun y c q z => ?_) (fun p q z => ?_) ok
  · obtain ⟨m, ⟨oL, _, _, hoL, _⟩, _⟩ := I.loc
    rw [← z, n] at hoL
    cases hoL
  · obtain ⟨v, o, ho, _⟩ := I.cell y c q
    rw [z, n] at ho
    cases ho
  · have := (I.pin p q).1
    rw [z, n] at this
    cases this
/-- e.x = value, the first one -/
def sExN (K : Frag) (C P f : Addr) (ta tv : TE) (x : Str) : TS := fun D σ H => tv σ H fun y H1 => ta σ H1 fun z H2 => ∃ a, z = .ref a ∧ H2 a = some (exN a C none) ∧ ExF K C P f x ∧
  ∀ dx, H2 dx = none → dx ≠ a → D.nx σ (upd (upd H2 a (exN a C (some dx))) dx (xdE dx [(x, y)]))
theorem ps_exN (hex : X.ex = []) (ha : PE X o ta) (hv : PE X value tv) (hs : swapsWith value (some (.Attribute o x pos')) pos.line X.env = pure false) : PS X (.Assign [.Attribute o x pos'] value pos) (sExN X.K C P f ta tv x) := by
  intro pins s σ H D I h
  refine plainObj_wpAny_Assign_Attribute (thn (hv pins s σ H _ I h) fun u s1 ⟨y, H1, I1, ry, q⟩ => thn (ha pins s1 σ H1 _ I1 q) fun ov s2 ⟨z, H2, I2, rx, a, ez, ea, F, q2⟩ => ?_) hs
  subst ez
  obtain rfl : ov = Value.ref a := rx
  obtain ⟨⟨ob, t', ⟨o1, o2, o3⟩, o4⟩, _⟩ := I2.hok _ _ ea
  have nz : s2.heap.get? s2.heap.objs.size = none := Heap.get?_none_of_le (Nat.le_refl _)
  have Hz : H2 s2.heap.objs.size = none := I2.hok.fresh (Nat.le_refl _)
  have ne : s2.heap.objs.size ≠ a := Nat.ne_of_gt (Heap.lt_size o1)
  obtain ⟨hh, g, d, tk, os⟩ := s2
  refine exi_set_new I2.kIn (clsI_of I2.kIn F.i.xi) F.i.k F.sa F.nn ⟨o1, o2⟩ o3 o4 fun h' tk' hn' ga ks => ?_
  have J1 : Inv X pins σ (upd H2 a (exN a C (some hh.objs.size))) ⟨h', g, d, tk', os⟩ := by
    refine I2.write (x := a) (e := a) (t' := tk') (by rw [ea]; exact True.intro) (.inl rfl) ks ⟨_, ga⟩ ?_
    exact exN_ok ga o2 rfl o4
  have J2 := I2.trackNew J1 (a := hh.objs.size) (u := xdE hh.objs.size [(x, y)]) hex nz (by rw [upd_ne ne]; exact Hz) (xdE_ok hn' (fun g => ?_) (fun g hg => ?_))
  · exact ⟨σ, _, J2, q2 _ Hz ne⟩
  · by_cases z : g = x
    · subst z
      simp only [List.lookup, beq_self_eq_true, if_true]
      exact ry
    · have : ([(x, y)] : List (Str × V)).lookup g = none := by
        simp only [List.lookup]
        rw [beq_eq_false_iff_ne.mpr z]
      rw [this, if_neg z]
      exact True.intro
  · by_cases z : g = x
    · rw [z]; simp
    · rw [if_neg z] at hg
      exact absurd rfl hg
end
end L2

namespace L2
open PySem PySem.Spec PyProof.Rows PySem.W PySem.Builtin PySem.Builtin.ObjectAttr
section
variable {prog : Program} {w : World} {A : Around} {E : Value → Shared → Prop} {h : Heap} {g : Array GenState} {d : Drawn} {t : Nat} {os : OsState} {K : Frag} {C P f a : Addr} {o : Obj} {v : Value}
/-- the base's __init__ of an error that is being made: its args are laid -/
theorem binit_call {Q : Value → Shared → Prop} {rest : List Value} {us : Array Value} {a0 : Value} (I : ClsI h C P f) (O : ExAt h a o C) (hf : o.data = .fields us) (h0 : us[0]? = some a0) (hz : rest.length ≤ sizeLine)
    (hq : Q .none ⟨(h.push { cls := .type "tuple", data := .seq rest.toArray }).update a (Obj.mapFields (·.setIfInBounds 0 (.ref h.objs.size))), g, d, t, os⟩) :
    wpAny (model prog w) A (call (.builtin "ValueError.__init__") (.ref a :: rest)) Q E ⟨h, g, d, t, os⟩ := by
  obtain ⟨nm, q, N, bs, sn, sub, ab, col, dd, k0, k1, k2, k3, k5, mN, hC, hn, hni, T⟩ := I.ex
  have F := PySem.F.excBase_ValueError
  have z0 : 0 < us.size := (Array.getElem?_eq_some_iff.mp h0).1
  have g1 := Heap.get?_push_of_some (h := h) { cls := .type "tuple", data := .seq rest.toArray } O.at_
  refine wpAny_call (codeAny_call_builtin F.init.plain F.initEntry (wpAny_check_init_subU F T hC O.at_ O.cls ?_))
  unfold Builtin.«BaseException.__init__»
  dsimp only
  rw [if_neg (by simp)]
  unfold newTuple Builtin.BaseException.bexcPut
  refine wpAny_bind (wpAny_newObj_type ?_ (by show rest.toArray.size ≤ sizeLine; rw [List.size_toArray]; exact hz))
  refine wpAny_bind (wpAny_bind (wpAny_field g1 hf h0 (wpAny_bind (wpAny_setField g1 hf z0 ?_))))
  split
  · refine wpAny_letGo ?_
    exact wpAny_pure hq
  · exact wpAny_pure (wpAny_pure hq)
end
/-- the class whose __init__ is called by its name -/
structure BaseI (K : Frag) (P : Addr) : Prop where
  rd : readsIn K P (.type "type") = true
  fc : findCls K (.ref P) (.type "type") "__init__" = some (.val (.builtin "ValueError.__init__"))
  ga : specialIn K (.ref P) "__getattribute__" = some (some (.builtin "type.__getattribute__"))
section
variable {X : Cx} {C P f : Addr} {x : Str} {p apos pos : Pos} {e₁ e₂ : Expr} {t : TA}
/-- Base.__init__(self, text) -/
def tBInit (K : Frag) (P : Addr) (t : TA) : TE := fun σ H Q => t σ H fun vs H1 => ∃ a C dd f txt, vs = [.ref a, .str txt] ∧ H1 a = some (exN a C dd) ∧ ExI K C P f ∧ Q .non H1
theorem upd_id {H : Hp} {a : Addr} {o : HO} (h : H a = some o) : upd H a o = H := by
  funext b
  by_cases z : b = a
  · rw [z, upd_same, h]
  · rw [upd_ne z]
theorem pe_binit {pl : Sem Bool} (hg : Gl X x) (hm : X.mg x = some (.ref P)) (B : BaseI X.K P) (ha : PA X [e₁, e₂] t) (hdb : (x == ("__debug__" : Str)) = false := by decide)
    (hst : starEach [e₁, e₂] X.env = (false, eval e₁ X.env) :: starEach [e₂] X.env := by rfl) (hpl : (backTo pos (starEach [e₂] X.env)).any (·.1) = false := by rfl)
    (ht : eval (.Call (.Attribute (.Name x p) "__init__" apos) [e₁, e₂] [] pos) X.env = (do
      let ov ← eval (.Name x p) X.env
      standAt apos.atName
      let (f, first) ← holding [ov] (getMethod ov "__init__" pl)
      callWith pos f first (backTo pos (starEach [e₁, e₂] X.env)) (backToKw pos (keywordEach [] X.env))) := by rfl) :
    PE X (.Call (.Attribute (.Name x p) "__init__" apos) [e₁, e₂] [] pos) (tBInit X.K P t) := by
  intro pins s σ H Q I h
  refine PySem.W.methodCall_KW (pl := pl) (ld_glob I hg hm ?_ hdb) ht
  refine method_cls I.kIn B.ga (cls_value I.kIn B.rd B.fc rfl ?_)
  have I0 := I.tok (s.toks + 1)
  have hA := ha pos pins _ σ H _ I0 h
  rw [hst] at hA ⊢
  refine Calls.callWith_builtin (by show (false || (backTo pos (starEach [e₂] X.env)).any (·.1)) = false; rw [hpl] <;> rfl) (Calls.evalArgs_plain (thn hA fun us s2 ⟨vs, H2, I2, r2, a, C, dd, f, txt, e1, ea, F, q2⟩ => ?_))
  subst e1
  obtain ⟨u1, u2, rfl, ra, rt⟩ := r2.two
  obtain rfl : u1 = Value.ref a := ra
  obtain ⟨⟨ob, t', ⟨o1, o2, o3⟩, o4⟩, _⟩ := I2.hok _ _ ea
  obtain ⟨hh, g, d, tk, os⟩ := s2
  refine binit_call (clsI_of I2.kIn F.xi) ⟨o1, o2⟩ o4 rfl (by show 1 ≤ sizeLine; decide) ?_
  have g1 := Heap.get?_push_of_some (h := hh) { cls := .type "tuple", data := .seq [u2].toArray } o1
  have d1 := Obj.data_mapFields o4 (·.setIfInBounds 0 (Value.ref hh.objs.size))
  have g2 := Heap.get?_update_self (Obj.mapFields (·.setIfInBounds 0 (Value.ref hh.objs.size))) g1 (Obj.isFreed_of_fields d1)
  have J : Inv X pins σ (upd H2 a (exN a C dd)) ⟨(hh.push { cls := .type "tuple", data := .seq [u2].toArray }).update a (Obj.mapFields (·.setIfInBounds 0 (.ref hh.objs.size))), g, d, tk, os⟩ := by
    refine I2.write (x := a) (e := a) (t' := tk) (by rw [ea]; exact True.intro) (.inl rfl) (fun b u nb q => ?_) ⟨_, g2⟩ ?_
    · exact (Heap.get?_update_other _ _ (Ne.symm nb)).trans (Heap.get?_push_of_some _ q)
    · exact exN_ok g2 ((Obj.cls_mapFields _ _).trans o2) ((dict_mf _ _).trans o3) d1
  rw [upd_id ea] at J
  exact ⟨.non, H2, J, rfl, q2⟩
/-! ### e.x of an error that was caught -/
def tExF (K : Frag) (ta : TE) (x : Str) : TE := fun σ H Q => ta σ H fun z H1 => ∃ a C P f dx fs v, z = .ref a ∧ H1 a = some (excD a C (some dx)) ∧ H1 dx = some (xdE dx fs) ∧ ExF K C P f x ∧ fs.lookup x = some v ∧ Q v H1
theorem pe_exf {e : Expr} {ta : TE} (he : PE X e ta) (hb : attributeBase e x X.env (eval e X.env) = eval e X.env) : PE X (.Attribute e x pos) (tExF X.K ta x) := by
  intro pins s σ H Q I h
  refine attr_of hb (thn (he pins s σ H _ I h) fun u s1 ⟨z, H1, I1, rx, a, C, P, f, dx, fs, v, ez, ea, ed, F, l, q⟩ => ?_)
  subst ez
  obtain rfl : u = Value.ref a := rx
  obtain ⟨⟨ob, O, od, us, ou⟩, _⟩ := I1.hok _ _ ea
  obtain ⟨⟨mA, n1, r1, _⟩, _⟩ := I1.hok _ _ ed
  obtain ⟨w', hw, rw'⟩ := RelO.some_of (by rw [← l]; exact r1 x)
  unfold getAttr
  refine wpAny_bind (wpAny_mkText ?_)
  have I2 := I1.tok (s1.toks + 1)
  obtain ⟨hh, g, d, tk, os⟩ := s1
  exact exi_get_by I1.kIn (clsI_of I1.kIn F.i.xi) F.i.k F.nn O od ou n1.ns hw (handed_of rw') ⟨v, H1, I2, rw', q⟩
end
end L2

namespace L2
open PySem PySem.Spec PyProof.Rows PySem.W
/-! ### f-strings -/
/-- what stands in an f-string for a value -/
def FmtV : V → Str → Prop
  | .int i, x => i.natAbs.log2 < 1920 ∧ x = (toString i : String)
  | .str y, x => y.length ≤ sizeLine ∧ x = y
  | .non, x => x = "None"
  | _, _ => False
def tFmt (ta : TE) : TE := fun σ H Q => ta σ H fun v H1 => ∃ x, FmtV v x ∧ Q (.str x) H1
abbrev TJ := Str → St → Hp → (Str → Hp → Prop) → Prop
/-- the parts of an f-string, behind what was joined so far -/
def PJ (X : Cx) (es : List Expr) (t : TJ) : Prop :=
  ∀ (acc : Str) (pins : List (Addr × Obj)) (s : Shared) (σ : St) (H : Hp) (Q : Str → Hp → Prop), Inv X pins σ H s → t acc σ H Q → wpAny (model X.prog X.w) X.A (joinParts acc (evalEach es X.env)) (EP X pins σ fun v H' => ∃ x, v = .str x ∧ Q x H') X.xe s
def jNil : TJ := fun acc _ H Q => acc.length ≤ sizeLine ∧ Q acc H
def jCons (te : TE) (tr : TJ) : TJ := fun acc σ H Q => te σ H fun v H1 => ∃ x, v = .str x ∧ (acc ++ x).length ≤ sizeLine ∧ tr (acc ++ x) σ H1 Q
def tJoin (t : TJ) : TE := fun σ H Q => t Str.empty σ H fun x H' => Q (.str x) H'
section
variable {X : Cx} {value e e' : Expr} {es : List Expr} {ta te : TE} {tr t : TJ} {pos : Pos}
theorem pe_fmt (ha : PE X value ta) : PE X (.FormattedValue value (-1) none pos) (tFmt ta) := by
  intro pins s σ H Q I h
  refine FormattedValue_plain (thn (ha pins s σ H _ I h) fun u s1 ⟨v, H1, I1, rv, x, fx, q⟩ => ?_)
  cases v with
  | int i =>
    obtain ⟨t, rfl⟩ := rv
    obtain ⟨hl, rfl⟩ := fx
    exact formatField_int_small hl ⟨.str _, H1, I1.tok _, ⟨_, rfl⟩, q⟩
  | str y =>
    obtain ⟨t, rfl⟩ := rv
    obtain ⟨hl, rfl⟩ := fx
    exact formatField_str (fun t' tk => ⟨.str x, H1, I1.tok _, ⟨_, rfl⟩, q⟩) hl
  | non =>
    cases rv
    cases fx
    exact wpAny_formatField_none ⟨.str _, H1, I1.tok _, ⟨_, rfl⟩, q⟩
  | bl _ => exact fx.elim
  | byt _ => exact fx.elim
  | flt _ => exact fx.elim
  | ref _ => exact fx.elim
  | ty _ => exact fx.elim
theorem pj_nil : PJ X [] jNil := fun acc pins s σ H Q I h => joinParts_nil ⟨.str acc, H, I.tok _, ⟨_, rfl⟩, acc, rfl, h.2⟩ h.1
theorem pj_cons (he : PE X e te) (hr : PJ X es tr) : PJ X (e :: es) (jCons te tr) := by
  intro acc pins s σ H Q I h
  show wpAny _ _ (joinParts acc (eval e X.env :: evalEach es X.env)) _ _ _
  refine joinParts_cons (thn (he pins s σ H _ I h) fun u s1 ⟨v, H1, I1, rv, x, ev, hz, q⟩ => ?_)
  subst ev
  obtain ⟨t, rfl⟩ := rv
  exact ⟨hz, hr _ pins s1 σ H1 Q I1 q⟩
theorem pe_join (h : PJ X (e :: e' :: es) t) : PE X (.JoinedStr (e :: e' :: es) pos) (tJoin t) := by
  intro pins s σ H Q I hw
  refine JoinedStr_many (thn (h _ pins s σ H _ I hw) fun u s1 ⟨v, H1, I1, rv, x, ev, q⟩ => ?_)
  subst ev
  exact ⟨.str x, H1, I1, rv, q⟩
end
end L2

namespace L2
open PySem PySem.Spec PyProof.Rows PySem.W
/-! ### over a text, sign by sign -/
def Its (x : Str) : It := ⟨fun i _ => ∃ c, x.cps[i]? = some c, fun i H v H' => H' = H ∧ ∃ c, x.cps[i]? = some c ∧ v = .str ⟨#[c]⟩, fun i _ => x.cps[i]? = none⟩
def iStr (tl : TE) : TI := fun σ H R => tl σ H fun v H1 => ∃ x, v = .str x ∧ R (Its x) H1
section
variable {X : Cx}
end
/-! ### methods of texts -/
def rPart : V → List V → Hp → VK → Prop := fun z vs H Q => ∃ x y, z = .str x ∧ vs = [.str y] ∧ (y.length == 0) = false ∧ x.length ≤ sizeLine ∧ ∀ p, H p = none → Q (.ref p) (upd H p (.tup [.str (Txt.partition x y).1, .str (Txt.partition x y).2.1, .str (Txt.partition x y).2.2]))
def rSplit : V → List V → Hp → VK → Prop := fun z vs H Q => ∃ x y, z = .str x ∧ vs = [.str y] ∧ (y.length == 0) = false ∧ x.length + 2 ≤ sizeLine ∧ ∀ p, H p = none → Q (.ref p) (upd H p (.lst ((Txt.split x y).map V.str)))
section
variable {X : Cx}
end
end L2
namespace L2
open PySem PySem.Spec PyProof.Rows PySem.W
section
variable {X : Cx}
/-! ### int(text), any and all of bools, text * number -/
/-! ### text * number, text[a:b] -/
/-! ### a list against the empty one -/
end
end L2

/-! texts of figures, and of amounts, as lists of codes -/
namespace TM
open PySem PySem.NumText
/-- the figures of a number -/
def dg (n : Nat) : List Nat := (Nat.toDigits 10 n).map Char.toNat
theorem dg_len {n : Nat} (h : n < 10 ^ 60) : (dg n).length ≤ 60 := by
  unfold dg
  rw [List.length_map]
  exact PyProof.Rows.digits10_le (by decide) h
/-- figures without a nought ahead of others -/
structure Fig (cs : List Nat) : Prop where
  ne : cs ≠ []
  len : cs.length ≤ 60
  all : AllDigits cs
  no : cs.head? = some 48 → cs.length = 1
/-- the text L writes the amount t / b -/
def Reads (L : List Nat) (t b : Nat) : Prop :=
  (Fig L ∧ t = digitsVal L ∧ b = 1) ∨ ∃ p q, L = p ++ 47 :: q ∧ Fig p ∧ Fig q ∧ t = digitsVal p ∧ b = digitsVal q ∧ 2 ≤ b ∧ Nat.gcd t b = 1
def showL (t b : Nat) : List Nat := if b = 1 then dg t else dg t ++ 47 :: dg b
end TM
namespace TM
open PySem PySem.StrLaws PySem.Builtin PySem.Builtin.Str
abbrev cps (x : Str) : List Nat := x.cps.toList
abbrev sl : Str := ⟨#[47]⟩
theorem cps_append' (x y : Str) : cps (x ++ y) = cps x ++ cps y := by
  show (x.cps ++ y.cps).toList = _
  rw [Array.toList_append]
end TM

namespace L2
open PySem PySem.Spec PyProof.Rows PySem.W
def rCount : V → List V → Hp → VK → Prop := fun x vs H Q => ∃ l xs y, x = .ref l ∧ vs = [y] ∧ H l = some (.lst xs) ∧ flatV y = true ∧ xs.all flatV = true ∧ Q (.int ((xs.countP fun z => eqV z y : Nat) : Int)) H
def rIndex : V → List V → Hp → VK → Prop := fun x vs H Q => ∃ l xs y, ∃ j : Nat, ∃ z, x = .ref l ∧ vs = [y] ∧ H l = some (.lst xs) ∧ flatV y = true ∧ xs.all flatV = true ∧ xs[j]? = some z ∧ eqV z y = true ∧
  (∀ m z, m < j → xs[m]? = some z → eqV z y = false) ∧ Q (.int (j : Int)) H
section
variable {X : Cx}
end
theorem bt_val : bootBuiltins "ValueError" = some (.type "ValueError") := by decide +kernel
def Nx (n i : Nat) (P : Prop) : Prop := ∃ m', m' < n - i ∧ m' = n - (i + 1) ∧ i + 1 ≤ n ∧ P
theorem clOk_none {X : Cx} {scope : Scope} (h : ∀ y ∈ scope.names, y.2 = .local) : ClOk X scope [] := by
  refine ⟨closureFor_none fun x hx z => ?_, fun x c e => by simp at e, fun x e => ?_⟩
  · rw [h x hx] at z
    cases z
  · exfalso
    have e' : ∃ k, (k = NameKind.cell ∨ k = NameKind.free) ∧ (relabel scope X.env).names.lookup x = some k := by
      rcases e with e | e
      · exact ⟨_, .inl rfl, e⟩
      · exact ⟨_, .inr rfl, e⟩
    obtain ⟨k, hk, e⟩ := e'
    have hm := PySem.mem_of_lookup e
    obtain ⟨y, hy, hy2⟩ := List.mem_map.mp hm
    have hl := h y hy
    obtain ⟨n, kk⟩ := y
    simp only at hl
    subst hl
    simp at hy2
    rcases hk with rfl | rfl
    · exact absurd hy2.2 (by decide)
    · exact absurd hy2.2 (by decide)
theorem blkN_none {X : Cx} {scope : Scope} {N' : List Str} {cl : List (Str × Addr)} {σ : St} : BlkN X N' scope cl σ (List.replicate N'.length none) := by
  refine ⟨by simp, fun i x v h1 h2 => ?_⟩
  rw [List.getElem?_replicate] at h2
  split at h2 <;> cases h2
end L2

namespace L2
open PySem PySem.Spec PyProof.Rows
/-! ### an empty dict, of which it is only known that it is one -/
def dcE (a : Addr) : HO := .ext fun h => ∃ o, h.get? a = some o ∧ o.cls = .type "dict"
def tDict0 : TE := fun _ H Q => ∀ p, H p = none → Q (.ref p) (upd H p (dcE p))
section
variable {X : Cx} {pos : Pos}
/-- isinstance against a built-in type, a dict among the things that are asked -/
def IsiD (K : PySem.W.Frag) (H : Hp) (v : V) (T : String) (b : Bool) : Prop := Isi K H v T b ∨ ∃ a, v = .ref a ∧ H a = some (dcE a) ∧ T = "str" ∧ b = false
end
end L2

namespace L2
open PySem PySem.Spec PyProof.Rows PySem.W
section
variable {X : Cx}
end
end L2
namespace TM
open PySem PySem.Spec PyProof.Rows PySem.W
/-- the letter j places on, round the 26 -/
def rd (c j : Nat) : Nat := 97 + (c - 97 + j) % 26
abbrev LET : Str := "abcdefghijklmnopqrstuvwxyz"
end TM

namespace L2
open PySem PySem.Spec PyProof.Rows
/-! ### == and != of lists -/
def rEqL (K : PySem.W.Frag) : R2 := fun x y H Q => ∃ a b xs ys, ∃ e : Nat → Bool, x = .ref a ∧ y = .ref b ∧ SqL K H a xs ∧ SqL K H b ys ∧ (∀ (j : Nat) x y, xs[j]? = some x → ys[j]? = some y → DEq K H 40 x y (e j)) ∧
  Q (.bl ((List.range (min xs.length ys.length)).all e && xs.length == ys.length)) H
def rNeL (K : PySem.W.Frag) : R2 := fun x y H Q => ∃ a b xs ys, ∃ e : Nat → Bool, x = .ref a ∧ y = .ref b ∧ SqL K H a xs ∧ SqL K H b ys ∧ (∀ (j : Nat) x y, xs[j]? = some x → ys[j]? = some y → DEq K H 40 x y (e j)) ∧
  Q (.bl (!((List.range (min xs.length ys.length)).all e && xs.length == ys.length))) H
section
variable {X : Cx}
end
/-- a value that equals itself at sight -/
def Sf (v : V) : Prop := flatV v = true ∨ ∃ a, v = .ref a
theorem eqV_self {v : V} (h : flatV v = true) : eqV v v = true := by
  cases v <;> simp_all [flatV, eqV]
theorem DEq.self {K : PySem.W.Frag} {H : Hp} {n : Nat} {v : V} (h : Sf v) : DEq K H n v v true := by
  rcases h with h | ⟨a, rfl⟩
  · have := DEq.flat (K := K) (H := H) (n := n) h h
    rwa [eqV_self h] at this
  · exact .same
theorem all_true (n : Nat) (m : Nat) (h : n = m) : ((List.range (min n m)).all (fun _ => true) && n == m) = true := by
  subst h
  rw [beq_self_eq_true, Bool.and_true, List.all_eq_true]
  exact fun _ _ => rfl
/-- two lists of the same things -/
def rNeLs (K : PySem.W.Frag) : R2 := fun x y H Q => ∃ a b xs, x = .ref a ∧ y = .ref b ∧ SqL K H a xs ∧ SqL K H b xs ∧ (∀ v ∈ xs, Sf v) ∧ Q (.bl false) H
end L2

namespace L2
open PySem PySem.Spec PyProof.Rows
theorem bt_lt (n : Nat) {x c : Int} (h0 : 0 ≤ x) (h : x < c) (hc : c ≤ ((2 ^ n : Nat) : Int) := by decide +kernel) : Bt n x := by
  unfold Bt
  omega
theorem emod_in (x : Int) {m : Int} (h : 0 < m) : 0 ≤ x % m ∧ x % m < m := ⟨Int.emod_nonneg x (by omega), Int.emod_lt_of_pos x h⟩
theorem b6 {n : Nat} {x : Int} (h : Bt n x) (hn : n ≤ 1000000 := by decide) : Bt 1000000 x := h.mono hn
theorem bl {c : Int} (h0 : 0 ≤ c := by decide) (h : c < 18446744073709551616 := by decide) : Bt 1000000 c := b6 (bt_lt 64 h0 h)
theorem b9 {c : Int} (h0 : 0 ≤ c := by decide) (h : c < 18446744073709551616 := by decide) : Bt 9000 c := (bt_lt 64 h0 h).mono (by decide)
theorem bt_int : bootBuiltins "int" = some (.type "int") := by decide +kernel
theorem bt_bool : bootBuiltins "bool" = some (.type "bool") := by decide +kernel
theorem bt_tuple : bootBuiltins "tuple" = some (.type "tuple") := by decide +kernel
theorem bt_list : bootBuiltins "list" = some (.type "list") := by decide +kernel
theorem bt_str : bootBuiltins "str" = some (.type "str") := by decide +kernel
theorem bt_abs : bootBuiltins "abs" = some (.builtin "abs") := by decide +kernel
/-! ### the tuples stay -/
def Tk (H H' : Hp) : Prop := ∀ b ys, H b = some (.tup ys) → H' b = some (.tup ys)
theorem sz1000 {n : Nat} (h : n ≤ 1000) : n ≤ sizeLine := Nat.le_trans h (by decide)
/-! ### displays of many elements -/
def starFree : Expr → Bool
  | .Starred .. => false
  | _ => true
end L2

namespace L2
open PySem PySem.Spec PyProof.Rows
/-! ### what a value tells: flat things, and tuples of such, at any depth -/
inductive Dt where
  | i (n : Int)
  | s (x : Str)
  | b (k : Bool)
  | n
  | t (l : List Dt)
/-- a tuple that nothing changes: one of the heap, or of the module -/
def SqZ (K : PySem.W.Frag) (H : Hp) (a : Addr) (xs : List V) : Prop := H a = some (.tup xs) ∨ ∃ (o : Obj) (its : Array Value) (n : Nat), K.lookup a = some o ∧ o.cls = .type "tuple" ∧ o.data = .seq its n ∧ its.size ≤ sizeLine ∧ Vals xs its.toList
inductive Dv (K : PySem.W.Frag) (H : Hp) : Nat → V → Dt → Prop where
  | i {n m} : Dv K H n (.int m) (.i m)
  | s {n x} : Dv K H n (.str x) (.s x)
  | b {n k} : Dv K H n (.bl k) (.b k)
  | n {n} : Dv K H n .non .n
  | t {n a xs ds} : SqZ K H a xs → xs.length = ds.length → (∀ (j : Nat) x d, xs[j]? = some x → ds[j]? = some d → Dv K H n x d) → Dv K H (n + 1) (.ref a) (.t ds)
/-- lists of such things -/
def DL (K : PySem.W.Frag) (H : Hp) (n : Nat) (xs : List V) (ds : List Dt) : Prop := xs.length = ds.length ∧ ∀ (j : Nat) x d, xs[j]? = some x → ds[j]? = some d → Dv K H n x d
/-- the same list of things, told twice -/
def rEqDL (K : PySem.W.Frag) : R2 := fun x y H Q => ∃ a b xs ys ds, x = .ref a ∧ y = .ref b ∧ SqL K H a xs ∧ SqL K H b ys ∧ DL K H 40 xs ds ∧ DL K H 40 ys ds ∧ Q (.bl true) H
def rNeDL (K : PySem.W.Frag) : R2 := fun x y H Q => ∃ a b xs ys ds, x = .ref a ∧ y = .ref b ∧ SqL K H a xs ∧ SqL K H b ys ∧ DL K H 40 xs ds ∧ DL K H 40 ys ds ∧ Q (.bl false) H
def rEqDT (K : PySem.W.Frag) : R2 := fun x y H Q => ∃ a b xs ys ds, x = .ref a ∧ y = .ref b ∧ SqT K H a xs ∧ SqT K H b ys ∧ DL K H 40 xs ds ∧ DL K H 40 ys ds ∧ Q (.bl true) H
def rNeDT (K : PySem.W.Frag) : R2 := fun x y H Q => ∃ a b xs ys ds, x = .ref a ∧ y = .ref b ∧ SqT K H a xs ∧ SqT K H b ys ∧ DL K H 40 xs ds ∧ DL K H 40 ys ds ∧ Q (.bl false) H
section
variable {X : Cx}
end
end L2

namespace L2
open PySem PySem.Spec PyProof.Rows
/-! ### a comprehension that takes names over -/
theorem closure_go {env : Env} : ∀ (names : List (Str × NameKind)) (acc : List (Str × Addr)), (∀ y ∈ names, y.2 = NameKind.free → ∃ c, env.cells.lookup y.1 = some c) → (∀ x c, acc.lookup x = some c → env.cells.lookup x = some c) →
    ∃ cl, (forIn (m := Sem) names acc (fun x r => do if (x.2 == NameKind.free) = true then do let c ← cellOf env x.1; pure (ForInStep.yield ((x.1, c) :: r)) else pure (ForInStep.yield r))) = pure cl ∧
      (∀ x c, cl.lookup x = some c → env.cells.lookup x = some c) ∧ (∀ y ∈ names, y.2 = NameKind.free → ∃ c, cl.lookup y.1 = some c) ∧ ∀ x, (∃ c, acc.lookup x = some c) → ∃ c, cl.lookup x = some c
  | [], acc, _, h2 => ⟨acc, rfl, h2, (fun y hy => by simp at hy), fun _ h => h⟩
  | y :: r, acc, h1, h2 => by
    by_cases e : y.2 = NameKind.free
    · obtain ⟨c, hc⟩ := h1 y List.mem_cons_self e
      obtain ⟨cl, e1, e2, e3, e4⟩ := closure_go r ((y.1, c) :: acc) (fun z hz => h1 z (List.mem_cons_of_mem _ hz)) (fun x d hx => by
        rw [List.lookup_cons] at hx
        split at hx
        · rename_i hb
          have : x = y.1 := eq_of_beq hb
          rw [this, hc]
          exact hx
        · exact h2 x d hx)
      refine ⟨cl, ?_, e2, fun z hz ez => ?_, fun x hx => e4 x ?_⟩
      · rw [List.forIn_cons, if_pos (by rw [e]; rfl)]
        unfold cellOf
        rw [hc]
        simp only [pure_bind]
        exact e1
      · rcases List.mem_cons.mp hz with rfl | hz
        · exact e4 z.1 ⟨c, by rw [List.lookup_cons, beq_self_eq_true]⟩
        · exact e3 z hz ez
      · obtain ⟨d, hd⟩ := hx
        rw [List.lookup_cons]
        split
        · exact ⟨c, rfl⟩
        · exact ⟨d, hd⟩
    · obtain ⟨cl, e1, e2, e3, e4⟩ := closure_go r acc (fun z hz => h1 z (List.mem_cons_of_mem _ hz)) h2
      refine ⟨cl, ?_, e2, fun z hz ez => ?_, e4⟩
      · rw [List.forIn_cons, if_neg (by intro z; exact e (eq_of_beq z))]
        simp only [pure_bind]
        exact e1
      · rcases List.mem_cons.mp hz with rfl | hz
        · exact absurd ez e
        · exact e3 z hz ez
theorem closure_ok {scope : Scope} {env : Env} (h : ∀ y ∈ scope.names, y.2 = NameKind.free → ∃ c, env.cells.lookup y.1 = some c) :
    ∃ cl, closureFor scope env = pure cl ∧ (∀ x c, cl.lookup x = some c → env.cells.lookup x = some c) ∧ ∀ y ∈ scope.names, y.2 = NameKind.free → ∃ c, cl.lookup y.1 = some c := by
  obtain ⟨cl, e1, e2, e3, _⟩ := closure_go (env := env) scope.names [] h (fun x c e => by simp at e)
  refine ⟨cl, ?_, e2, e3⟩
  simp only [closureFor]
  rw [show (forIn (m := Sem) scope.names [] fun x r => if (x.2 == NameKind.free) = true then (do let c ← cellOf env x.1; pure (ForInStep.yield ((x.1, c) :: r))) else pure (ForInStep.yield r)) = pure cl from e1]
  rfl
theorem relabel_from {scope : Scope} {env : Env} {x : Str} (hc : ∀ y ∈ scope.names, y.2 ≠ NameKind.cell) (h : (relabel scope env).names.lookup x = some .cell ∨ (relabel scope env).names.lookup x = some .free) : ∃ y ∈ scope.names, y.1 = x ∧ y.2 = NameKind.free := by
  have e' : ∃ k, (k = NameKind.cell ∨ k = NameKind.free) ∧ (relabel scope env).names.lookup x = some k := by
    rcases h with e | e
    · exact ⟨_, .inl rfl, e⟩
    · exact ⟨_, .inr rfl, e⟩
  obtain ⟨k, hk, e⟩ := e'
  have hm := PySem.mem_of_lookup e
  obtain ⟨y, hy, hy2⟩ := List.mem_map.mp hm
  obtain ⟨n, kk⟩ := y
  have hn := hc _ hy
  simp only at hy2 hn
  split at hy2
  · rename_i hf
    injection hy2 with a1 a2
    subst a1
    simp only [Bool.and_eq_true] at hf
    exact ⟨(n, kk), hy, rfl, eq_of_beq hf.1.1⟩
  · injection hy2 with a1 a2
    subst a1 a2
    rcases hk with rfl | rfl
    · exact absurd rfl hn
    · exact ⟨_, hy, rfl, rfl⟩
theorem clOk_of {X : Cx} (ok : X.Ok) {scope : Scope} (hc : ∀ y ∈ scope.names, y.2 ≠ NameKind.cell) (h : ∀ y ∈ scope.names, y.2 = NameKind.free → X.env.kindOf y.1 = some .cell ∨ X.env.kindOf y.1 = some .free) : ∃ cl, ClOk X scope cl := by
  obtain ⟨cl, e1, e2, e3⟩ := closure_ok (scope := scope) (env := X.env) fun y hy ey => ok.has y.1 (h y hy ey)
  refine ⟨cl, e1, e2, fun x hx => ?_⟩
  obtain ⟨y, hy, rfl, ey⟩ := relabel_from hc hx
  exact e3 y hy ey
/-- the names that are taken over: free in the block, cells of the frame -/
theorem hk_of {X : Cx} {scope sc : Scope} (hs : X.env.scope = sc) (h : (scope.names.all fun y => y.2 != NameKind.free || sc.names.lookup y.1 == some NameKind.cell || sc.names.lookup y.1 == some NameKind.free) = true) :
    ∀ y ∈ scope.names, y.2 = NameKind.free → X.env.kindOf y.1 = some .cell ∨ X.env.kindOf y.1 = some .free := fun y hy ey => by
  have q := List.all_eq_true.mp h y hy
  unfold Env.kindOf
  rw [hs]
  rw [ey] at q
  simp only [bne_self_eq_false, Bool.false_or, Bool.or_eq_true] at q
  rcases q with q | q
  · exact .inl (eq_of_beq q)
  · exact .inr (eq_of_beq q)
theorem lookup_relabel_free {env : Env} {x : Str} (hk : env.scope.kind = .function) (hx : env.kindOf x = some .cell) : ∀ {names : List (Str × NameKind)}, names.lookup x = some .free →
    (names.map fun (n, k) => if (k == NameKind.free && env.scope.kind == .function && env.kindOf n == some .cell) then (n, NameKind.cell) else (n, k)).lookup x = some .cell
  | [], h => by simp at h
  | (n, k) :: r, h => by
    rw [List.map_cons]
    rw [List.lookup_cons] at h
    by_cases e : (x == n) = true
    · rw [e] at h
      have e' : x = n := eq_of_beq e
      subst e'
      have hf : k = NameKind.free := Option.some.inj h
      subst hf
      have c : (NameKind.free == NameKind.free && env.scope.kind == .function && env.kindOf x == some .cell) = true := by rw [hk, hx]; rfl
      rw [show (match ((x, NameKind.free) : Str × NameKind) with | (n, k) => if (k == NameKind.free && env.scope.kind == .function && env.kindOf n == some .cell) = true then (n, NameKind.cell) else (n, k)) = (x, NameKind.cell) from if_pos c]
      rw [List.lookup_cons, beq_self_eq_true]
    · have e0 : (x == n) = false := by simpa using e
      rw [e0] at h
      have ih := lookup_relabel_free hk hx h
      have en : ∀ q : Str × NameKind, q.1 = n → (q :: (r.map fun (n, k) => if (k == NameKind.free && env.scope.kind == .function && env.kindOf n == some .cell) then (n, NameKind.cell) else (n, k))).lookup x = some .cell := fun q hq => by
        obtain ⟨q1, q2⟩ := q
        simp only at hq
        subst hq
        rw [List.lookup_cons, e0]
        exact ih
      refine en _ ?_
      show (if _ then (n, NameKind.cell) else (n, k)).1 = n
      split <;> rfl
theorem blkN_by {X : Cx} {N' N : List Str} {scope sc : Scope} {cl : List (Str × Addr)} {σ : St} (ts : List (Option Nat)) (hN : X.N = N) (hsc : X.env.scope = sc) (hl : ts.length = N'.length) (hk : sc.kind = .function)
    (h : ((ts.zip N').all fun p => match p.1 with | none => true | some j => N[j]? == some p.2 && sc.names.lookup p.2 == some NameKind.cell && scope.names.lookup p.2 == some NameKind.free) = true) :
    BlkN X N' scope cl σ (ts.map fun t => t.bind fun j => (σ[j]?).join) := by
  refine ⟨by rw [List.length_map, hl], fun i x v h1 h2 => ?_⟩
  rw [List.getElem?_map] at h2
  cases ht : ts[i]? with
  | none => rw [ht] at h2; cases h2
  | some t =>
    rw [ht] at h2
    have h2' : (t.bind fun j => (σ[j]?).join) = some v := Option.some.inj h2
    cases t with
    | none => cases h2'
    | some j =>
      have hm : (some j, x) ∈ ts.zip N' := List.mem_of_getElem? (by rw [List.getElem?_zip_eq_some]; exact ⟨ht, h1⟩ : (ts.zip N')[i]? = some (some j, x))
      have q := List.all_eq_true.mp h _ hm
      simp only [Bool.and_eq_true] at q
      obtain ⟨⟨q1, q2⟩, q3⟩ := q
      have q1' := eq_of_beq q1
      have q2' := eq_of_beq q2
      have q3' := eq_of_beq q3
      have kd : X.env.kindOf x = some .cell := by
        unfold Env.kindOf
        rw [hsc]
        exact q2'
      refine ⟨j, by rw [hN]; exact q1', ?_, by rw [hsc]; exact .inr (.inl q2'), (by rw [kd]; decide), .inl (lookup_relabel_free (by rw [hsc]; exact hk) kd q3')⟩
      have h3 : (σ[j]?).join = some v := h2'
      cases hj : σ[j]? with
      | none => rw [hj] at h3; cases h3
      | some o => rw [hj] at h3; cases o with
        | none => cases h3
        | some u => cases h3; rfl
end L2

namespace L2
open PySem PySem.Spec PyProof.Rows

/-! ### lists of pairs as tables -/
section
variable {κ : Type} [DecidableEq κ]
def valV (kvs : List (κ × V)) (k : κ) : Option V := (kvs.find? fun kv => decide (kv.1 = k)).map (·.2)
/-- in its place, or at the end -/
def putK (kvs : List (κ × V)) (k : κ) (v : V) : List (κ × V) :=
  if (kvs.any fun kv => decide (kv.1 = k)) = true then kvs.map (fun kv => if kv.1 = k then (kv.1, v) else kv) else kvs ++ [(k, v)]
def dropK (kvs : List (κ × V)) (k : κ) : List (κ × V) := kvs.filter fun kv => decide (kv.1 ≠ k)

theorem valV_pos {p : κ × V} {r : List (κ × V)} {k : κ} (e : p.1 = k) : valV (p :: r) k = some p.2 := by simp [valV, List.find?_cons, e]
theorem valV_neg {p : κ × V} {r : List (κ × V)} {k : κ} (e : ¬ p.1 = k) : valV (p :: r) k = valV r k := by simp [valV, List.find?_cons, e]
theorem valV_any (k : κ) : ∀ kvs : List (κ × V), (kvs.any fun kv => decide (kv.1 = k)) = (valV kvs k).isSome
  | [] => rfl
  | p :: r => by
    rw [List.any_cons]
    by_cases e : p.1 = k
    · simp only [valV_pos e, decide_eq_true e, Bool.true_or, Option.isSome_some]
    · rw [valV_neg e, decide_eq_false e, Bool.false_or]; exact valV_any k r
theorem valV_map (k j : κ) (y : V) : ∀ kvs : List (κ × V), valV (kvs.map fun kv => if kv.1 = k then (kv.1, y) else kv) j = (valV kvs j).map fun x => if j = k then y else x
  | [] => rfl
  | p :: r => by
    have ih := valV_map k j y r
    rw [List.map_cons]
    by_cases h : p.1 = k
    · rw [if_pos h]
      by_cases e : p.1 = j
      · rw [valV_pos (p := (p.1, y)) e, valV_pos e, Option.map_some, if_pos (e.symm.trans h)]
      · rw [valV_neg (p := (p.1, y)) e, valV_neg e, ih]
    · rw [if_neg h]
      by_cases e : p.1 = j
      · rw [valV_pos (p := p) e, valV_pos e, Option.map_some, if_neg (fun z => h (e.trans z))]
      · rw [valV_neg (p := p) e, valV_neg e, ih]
theorem valV_snoc (k j : κ) (y : V) : ∀ kvs : List (κ × V), valV kvs k = none → valV (kvs ++ [(k, y)]) j = if j = k then some y else valV kvs j
  | [], _ => by
    by_cases e : k = j
    · rw [if_pos e.symm]; exact valV_pos (p := (k, y)) e
    · rw [if_neg (fun z => e z.symm)]; exact valV_neg (p := (k, y)) e
  | p :: r, hn => by
    rw [List.cons_append]
    have hk : ¬ p.1 = k := fun z => by rw [valV_pos z] at hn; cases hn
    rw [valV_neg hk] at hn
    have ih := valV_snoc k j y r hn
    by_cases e : p.1 = j
    · rw [valV_pos e, valV_pos e, if_neg (fun z => hk (e.trans z))]
    · rw [valV_neg e, valV_neg e, ih]
theorem valV_put (kvs : List (κ × V)) (k j : κ) (y : V) : valV (putK kvs k y) j = if j = k then some y else valV kvs j := by
  unfold putK
  by_cases a : (kvs.any fun kv => decide (kv.1 = k)) = true
  · rw [if_pos a, valV_map]
    rw [valV_any] at a
    by_cases e : j = k
    · obtain ⟨x, hx⟩ := Option.isSome_iff_exists.mp a
      rw [if_pos e, e, hx, Option.map_some, if_pos rfl]
    · rw [if_neg e]
      cases valV kvs j with
      | none => rfl
      | some x => rw [Option.map_some, if_neg e]
  · rw [if_neg a]
    refine valV_snoc k j y kvs ?_
    rw [valV_any] at a
    cases q : valV kvs k with
    | none => rfl
    | some x => rw [q] at a; exact (a rfl).elim
theorem length_putK (kvs : List (κ × V)) (k : κ) (v : V) : (putK kvs k v).length ≤ kvs.length + 1 := by
  unfold putK
  split
  · rw [List.length_map]; omega
  · rw [List.length_append, List.length_cons, List.length_nil]; omega
theorem RelO.isSome_eq {o : Option V} {u : Option Value} (r : RelO o u) : o.isSome = u.isSome := by
  cases o with
  | none => cases u with
    | none => rfl
    | some _ => exact (show False from r).elim
  | some _ => cases u with
    | none => exact (show False from r).elim
    | some _ => rfl
/-- raw tables of the same keys -/
theorem KV.val {kvs : List (κ × V)} {vs : List (κ × Value)} (r : KV kvs vs) (k : κ) : RelO (valV kvs k) (valueAt vs k) := by
  unfold KV at r
  induction r with
  | nil => exact True.intro
  | @cons p q ps qs h t ih =>
    obtain ⟨h1, h2⟩ := h
    by_cases e : p.1 = k
    · have e' : q.1 = k := h1.symm.trans e
      have b : valueAt (q :: qs) k = some q.2 := by simp [valueAt, List.find?_cons, e']
      rw [valV_pos e, b]; exact h2
    · have e' : ¬ q.1 = k := fun z => e (h1.trans z)
      have b : valueAt (q :: qs) k = valueAt qs k := by simp [valueAt, List.find?_cons, e']
      rw [valV_neg e, b]; exact ih
theorem KV.any {kvs : List (κ × V)} {vs : List (κ × Value)} (r : KV kvs vs) (k : κ) : (kvs.any fun kv => decide (kv.1 = k)) = vs.any fun kv => decide (kv.1 = k) := by
  unfold KV at r
  induction r with
  | nil => rfl
  | cons h t ih => rw [List.any_cons, List.any_cons, ih, h.1]
theorem KV.repl {kvs : List (κ × V)} {vs : List (κ × Value)} (r : KV kvs vs) (k : κ) {y : V} {u : Value} (ry : RelV y u) :
    KV (kvs.map fun kv => if kv.1 = k then (kv.1, y) else kv) (vs.map fun kv => if kv.1 = k then (kv.1, u) else kv) := by
  unfold KV at r ⊢
  induction r with
  | nil => exact .nil
  | @cons p q ps qs h t ih =>
    rw [List.map_cons, List.map_cons]
    refine .cons ?_ ih
    obtain ⟨h1, h2⟩ := h
    by_cases e : p.1 = k
    · rw [if_pos e, if_pos (h1.symm.trans e)]; exact ⟨h1, ry⟩
    · rw [if_neg e, if_neg (fun z => e (h1.trans z))]; exact ⟨h1, h2⟩
theorem KV.put {kvs : List (κ × V)} {vs : List (κ × Value)} (r : KV kvs vs) (k : κ) {y : V} {u : Value} (ry : RelV y u) : KV (putK kvs k y) (stored vs k u) := by
  unfold putK stored
  rw [r.any k]
  by_cases e : (vs.any fun kv => decide (kv.1 = k)) = true
  · rw [if_pos e, if_pos e]; exact r.repl k ry
  · rw [if_neg e, if_neg e]; exact Paired.snoc r ⟨rfl, ry⟩
theorem KV.length {kvs : List (κ × V)} {vs : List (κ × Value)} (r : KV kvs vs) : kvs.length = vs.length := Paired.length r
end


/-! ### a tracked dict, its keys ints and texts or tuples of these -/
theorem kV_is {P : Program} {w : World} {k : Key} {u : Value} (r : RelV (kV k) u) : (mixKind P w).is k u = true := by
  cases k with
  | inl i => obtain ⟨t, e⟩ := (show ∃ t, u = Value.int i t from r); subst e; exact mixKind_int P w i t
  | inr x => obtain ⟨t, e⟩ := (show ∃ t, u = Value.str x t from r); subst e; exact mixKind_str P w x t
theorem items_are {P : Program} {w : World} : ∀ {ks : List Key} {us : List Value}, Vals (ks.map kV) us → ItemsAre (mixKind P w) ks us
  | [], _, r => by rw [List.map_nil] at r; cases r; exact .nil
  | k :: ks, _, r => by
    rw [List.map_cons] at r
    cases r with
    | cons h t => exact .cons (kV_is h) (items_are t)

/-- raw entries of a dict with tuple keys -/
abbrev KT (H : Hp) : List (List Key × V) → List (List Key × Addr × Value) → Prop := Paired fun p q => p.1 = q.1 ∧ H q.2.1 = some (.tup (p.1.map kV)) ∧ RelV p.2 q.2.2
theorem KT.val {H : Hp} {kvs : List (List Key × V)} {xs : List (List Key × Addr × Value)} (r : KT H kvs xs) (k : List Key) : RelO (valV kvs k) ((atKey xs k).map (·.2)) := by
  induction r with
  | nil => exact True.intro
  | @cons p q ps qs h t ih =>
    obtain ⟨h1, _, h2⟩ := h
    by_cases e : p.1 = k
    · have e' : q.1 = k := h1.symm.trans e
      have b : atKey (q :: qs) k = some q.2 := by simp [atKey, List.find?_cons, e']
      rw [valV_pos e, b]; exact h2
    · have e' : ¬ q.1 = k := fun z => e (h1.trans z)
      have b : atKey (q :: qs) k = atKey qs k := by simp [atKey, List.find?_cons, e']
      rw [valV_neg e, b]; exact ih
theorem KT.repl {H : Hp} {kvs : List (List Key × V)} {xs : List (List Key × Addr × Value)} (r : KT H kvs xs) (k : List Key) {y : V} {u : Value} (ry : RelV y u) :
    KT H (kvs.map fun kv => if kv.1 = k then (kv.1, y) else kv) (xs.map (putAt k u)) := by
  induction r with
  | nil => exact .nil
  | @cons p q ps qs h t ih =>
    rw [List.map_cons, List.map_cons]
    refine .cons ?_ ih
    obtain ⟨h1, h2, h3⟩ := h
    unfold putAt
    by_cases e : p.1 = k
    · rw [if_pos e, if_pos (h1.symm.trans e)]; exact ⟨h1, h2, ry⟩
    · rw [if_neg e, if_neg (fun z => e (h1.trans z))]; exact ⟨h1, h2, h3⟩
theorem KT.put {H : Hp} {kvs : List (List Key × V)} {xs : List (List Key × Addr × Value)} (r : KT H kvs xs) (k : List Key) {b : Addr} {y : V} {u : Value} (hb : H b = some (.tup (k.map kV))) (ry : RelV y u) :
    KT H (putK kvs k y) (storedH xs k b u) := by
  have e : (kvs.any fun kv => decide (kv.1 = k)) = (atKey xs k).isSome := by
    rw [valV_any, (r.val k).isSome_eq, Option.isSome_map]
  unfold putK storedH
  rw [e]
  by_cases q : (atKey xs k).isSome = true
  · rw [if_pos q, if_pos q]; exact r.repl k ry
  · rw [if_neg q, if_neg q]; exact Paired.snoc r ⟨rfl, hb, ry⟩
theorem KT.keeps {H H' : Hp} {kvs : List (List Key × V)} {xs : List (List Key × Addr × Value)} (r : KT H kvs xs) (ht : ∀ b ys, H b = some (.tup ys) → H' b = some (.tup ys)) : KT H' kvs xs :=
  Paired.mapP r fun _ _ z => ⟨z.1, ht _ _ z.2.1, z.2.2⟩

section
variable {P : Program} {w : World} {H : Hp} {h : Heap} {a : Addr}
theorem rd_of {u : HO} (ok : HOk P w H h) (e : Rd H a u) : ObjOk P w H h a u := e.ok ok
theorem dk_rd {kvs : List (Key × V)} (ok : HOk P w H h) (e : Rd H a (.dK kvs)) : kvs.length ≤ sizeLine ∧ (a == sysModules) = false ∧ ∃ vs, KV kvs vs ∧ h.DictOf (mixKind P w) a vs :=
  show ObjOk P w H h a (.dK kvs) from rd_of ok e
theorem dk_of {kvs : List (Key × V)} (ok : HOk P w H h) (e : H a = some (.dK kvs)) : kvs.length ≤ sizeLine ∧ (a == sysModules) = false ∧ ∃ vs, KV kvs vs ∧ h.DictOf (mixKind P w) a vs := dk_rd ok (.inl e)
/-- a tracked tuple of ints and texts is a key -/
theorem key_of {ks : List Key} (ok : HOk P w H h) (e : H a = some (.tup (ks.map kV))) : (tupleKind (mixKind P w)).is h ks a := by
  obtain ⟨_, its, r, o, h1, h2, n, h3⟩ := (show ObjOk P w H h a (.tup (ks.map kV)) from ok a _ e)
  exact ⟨o, its.toArray, n, h1, h2, h3, by simpa using items_are r⟩
theorem dt_rd {kvs : List (List Key × V)} (ok : HOk P w H h) (e : Rd H a (.dT kvs)) : kvs.length ≤ sizeLine ∧ (a == sysModules) = false ∧
    ∃ xs, KT H kvs xs ∧ h.DictOfH (tupleKind (mixKind P w)) a xs := by
  obtain ⟨z, y, xs, r, o, es, ep, h1, h2, h3, h4, h5⟩ := (show ObjOk P w H h a (.dT kvs) from rd_of ok e)
  refine ⟨z, y, xs, r, o, es, ep, h1, h2, h3, h4, fun x hx => ?_, h5⟩
  have all : ∀ {l : List (List Key × V)} {m : List (List Key × Addr × Value)}, KT H l m → ∀ x ∈ m, (tupleKind (mixKind P w)).is h x.1 x.2.1 := by
    intro l m q
    induction q with
    | nil => intro x hx; exact nomatch hx
    | @cons p q ps qs hq t ih =>
      intro x hx
      rcases List.mem_cons.mp hx with e | hx
      · subst e
        exact key_of ok (by rw [← hq.1]; exact hq.2.1)
      · exact ih x hx
  exact all r x hx
theorem dt_of {kvs : List (List Key × V)} (ok : HOk P w H h) (e : H a = some (.dT kvs)) : kvs.length ≤ sizeLine ∧ (a == sysModules) = false ∧
    ∃ xs, KT H kvs xs ∧ h.DictOfH (tupleKind (mixKind P w)) a xs := dt_rd ok (.inl e)
end

/-- what the dict at a holds at the key y -/
def DGet (H : Hp) (a : Addr) (y : V) (r : Option V) : Prop :=
  (∃ kvs k, Rd H a (.dK kvs) ∧ y = kV k ∧ r = valV kvs k) ∨ ∃ kvs k b, Rd H a (.dT kvs) ∧ y = .ref b ∧ H b = some (.tup (k.map kV)) ∧ r = valV kvs k
/-- the heap behind a[y] = v -/
def DPut (H : Hp) (a : Addr) (y v : V) (H' : Hp) : Prop :=
  (∃ kvs k, H a = some (.dK kvs) ∧ y = kV k ∧ kvs.length < sizeLine ∧ H' = upd H a (.dK (putK kvs k v))) ∨
  ∃ kvs k b, H a = some (.dT kvs) ∧ y = .ref b ∧ H b = some (.tup (k.map kV)) ∧ kvs.length < sizeLine ∧ H' = upd H a (.dT (putK kvs k v))
theorem DGet.k {H : Hp} {a : Addr} {kvs : List (Key × V)} {k : Key} (e : H a = some (.dK kvs)) : DGet H a (kV k) (valV kvs k) := .inl ⟨kvs, k, .inl e, rfl, rfl⟩
theorem DPut.k {H : Hp} {a : Addr} {kvs : List (Key × V)} {k : Key} {v : V} (e : H a = some (.dK kvs)) (hl : kvs.length < sizeLine) : DPut H a (kV k) v (upd H a (.dK (putK kvs k v))) := .inl ⟨kvs, k, e, rfl, hl, rfl⟩
section
variable {X : Cx} {pins : List (Addr × Obj)} {σ : St} {H : Hp} {s : Shared} {a : Addr} {y v : V} {u r : Value} {o : Option V} {A : Around} {E : Value → Shared → Prop}

theorem Inv.big (I : Inv X pins σ H s) : sysModules < s.heap.objs.size := by
  have h : mainGlobals < s.heap.objs.size := (I.mod.glob.keeps I.bk).lt
  exact Nat.lt_trans (by decide) h

/-- d[y], there -/
theorem d_getItem {Q : Value → Shared → Prop} (hu : A.units + 1 < cLine) (I : Inv X pins σ H s) (g : DGet H a y (some v)) (ry : RelV y u) (h : ∀ w' s', Inv X pins σ H s' → RelV v w' → Q w' s') :
    wpAny (model X.prog X.w) A (getItem (.ref a) u) Q E s := by
  rcases g with ⟨kvs, k, e, ey, l⟩ | ⟨kvs, k, b, e, ey, eb, l⟩
  · subst ey
    obtain ⟨z, hd, vs, rel, dd⟩ := dk_rd I.hok e
    obtain ⟨w', hw, rw'⟩ := RelO.some_of (v := v) (o := valueAt vs k) (by rw [l]; exact rel.val k)
    exact wpAny_getItem_of (kV_is ry) dd.mapOf hw (h w' _ (I.tok _) rw')
  · subst ey
    cases (show u = Value.ref b from ry)
    obtain ⟨z, hd, xs, rel, dd⟩ := dt_rd I.hok e
    obtain ⟨w', hw, rw'⟩ := RelO.some_of (v := v) (o := (atKey xs k).map (·.2)) (by rw [l]; exact rel.val k)
    obtain ⟨p, hp, hp2⟩ := Option.map_eq_some_iff.mp hw
    refine wpAny_getItem_heap (tupleKind_room_in1 hu) (key_of I.hok eb) dd hp ?_
    rw [hp2]
    exact h w' _ (I.tok _) rw'
theorem d_notIn {Q : Value → Shared → Prop} (hu : A.units + 1 < cLine) (I : Inv X pins σ H s) (g : DGet H a y o) (ry : RelV y u) (h : ∀ s', Inv X pins σ H s' → Q (.bool (!o.isSome)) s') :
    wpAny (model X.prog X.w) A (compareOp .NotIn u (.ref a)) Q E s := by
  rcases g with ⟨kvs, k, e, ey, l⟩ | ⟨kvs, k, b, e, ey, eb, l⟩
  · subst ey
    obtain ⟨z, hd, vs, rel, dd⟩ := dk_rd I.hok e
    refine wpAny_notIn_of (kV_is ry) hd dd.mapOf ?_
    rw [← (rel.val k).isSome_eq, ← l]
    exact h _ (I.tok _)
  · subst ey
    cases (show u = Value.ref b from ry)
    obtain ⟨z, hd, xs, rel, dd⟩ := dt_rd I.hok e
    refine wpAny_notIn_heap (tupleKind_room_in1 hu) (key_of I.hok eb) hd dd ?_
    have q := (rel.val k).isSome_eq
    rw [Option.isSome_map] at q
    rw [← q, ← l]
    exact h _ (I.tok _)
/-- a dict's object is replaced -/
theorem d_write {h' : Heap} {t' : Nat} {ob : HO} (I : Inv X pins σ H s) (mu : Mut (H a)) (hs : Heap.SameBut a s.heap h') (he : ∃ q, h'.get? a = some q) (new : ObjOk X.prog X.w (upd H a ob) h' a ob) :
    Inv X pins σ (upd H a ob) { s with heap := h', toks := t' } :=
  I.write (x := a) (e := a) mu (.inl rfl) (fun b q hb z => (hs.2 b hb).trans z) he new
theorem dk_new {P : Program} {w : World} {H' : Hp} {h' : Heap} {kvs : List (Key × V)} {vs : List (Key × Value)} (z : kvs.length ≤ sizeLine) (hd : (a == sysModules) = false) (rel : KV kvs vs) (dd : h'.DictOf (mixKind P w) a vs) :
    ObjOk P w H' h' a (.dK kvs) := ⟨z, hd, vs, rel, dd⟩
/-- d[y] = v -/
theorem d_setItem {H' : Hp} {Q : Unit → Shared → Prop} (hu : A.units + 1 < cLine) (I : Inv X pins σ H s) (g : DPut H a y v H') (ry : RelV y u) (rv : RelV v r) (h : ∀ s', Inv X pins σ H' s' → Q () s') :
    wpAny (model X.prog X.w) A (setItem (.ref a) u r) Q E s := by
  rcases g with ⟨kvs, k, e, ey, l, eH⟩ | ⟨kvs, k, b, e, ey, eb, l, eH⟩
  · subst ey eH
    obtain ⟨z, hd, vs, rel, dd⟩ := dk_of I.hok e
    have hz : vs.length ≤ sizeLine := by rw [← rel.length]; exact z
    have hl : (putK kvs k v).length ≤ sizeLine := by have := length_putK kvs k v; omega
    refine wpAny_setItem_pairs (hsz := hz) (kV_is ry) dd fun h' dd' hs => h _ ?_
    have he : ∃ q, h'.get? a = some q := let ⟨q, _, _, hq, _⟩ := dd'; ⟨q, hq⟩
    exact d_write I (by rw [e]; exact True.intro) hs he (dk_new hl hd (rel.put k rv) dd')
  · subst ey eH
    cases (show u = Value.ref b from ry)
    obtain ⟨z, hd, xs, rel, dd⟩ := dt_of I.hok e
    have hz : xs.length ≤ sizeLine := by rw [← Paired.length rel]; exact z
    have hl : (putK kvs k v).length ≤ sizeLine := by have := length_putK kvs k v; omega
    refine wpAny_setItem_heap (hsz := hz) (tupleKind_room_in1 hu) (key_of I.hok eb) dd fun h' dd' hs => h _ ?_
    obtain ⟨q, es, ep, hq, h2, h3, h4, _, h5⟩ := dd'
    refine d_write I (by rw [e]; exact True.intro) hs ⟨q, hq⟩ ⟨hl, hd, _, (rel.put k eb rv).keeps fun c ys ec => ?_, q, es, ep, hq, h2, h3, h4, h5⟩
    rw [upd_ne (ne_of ec e (fun z => nomatch z))]
    exact ec
end

section
variable {X : Cx} {pins : List (Addr × Obj)} {σ : St} {H : Hp} {s : Shared} {a : Addr} {kvs : List (Key × V)} {k : Key} {u : Value} {A : Around} {E : Value → Shared → Prop}
end


/-! ### readings and rules -/
/-- the element of a subscription, not a slice -/
def NoSl (i : Expr) : Prop := ∀ ov iv, subscripted i false ov iv = operate [ov, iv] (getItem ov iv)
theorem subD_of {prog : Program} {w : World} {A : Around} {E : Value → Shared → Prop} {s : Shared} {env : Env} {value slice : Expr} {pos : Pos} {T id : String} {Q : Value → Shared → Prop}
    (hl : typeLookup (.type T) "__getitem__" = pure (some (.builtin id))) (hs : NoSl slice)
    (h : wpAny (model prog w) A (eval value env) (fun o s₁ => wpAny (model prog w) A (eval slice env) (fun i s₂ => s₂.TypeIs o T ∧ wpAny (model prog w) A (getItem o i) Q E s₂) E s₁) E s) :
    wpAny (model prog w) A (eval (.Subscript value slice pos) env) Q E s := by
  refine Subscript_ (wpAny_mono h (fun o s₁ h₁ => wpAny_mono h₁ (fun i s₂ h₂ => ?_) fun _ _ x => x) fun _ _ x => x)
  obtain ⟨hT, h₂⟩ := h₂
  unfold subscriptTail
  refine wpAny_bind ?_
  rw [getitemInPython_of_ne hT.not_modules]
  refine wpAny_bind (wpAny_specialOf hT hl ?_)
  have fin : wpAny (model prog w) A (subscripted slice false o i) (fun r s₃ => wpAny (model prog w) A (letTemporaryGo value o r >>= fun _ => pure r) Q E s₃) E s₂ := by
    rw [hs o i]
    exact wpAny_operating (wpAny_mono h₂ (fun r s₃ h₃ => wpAny_bind (wpAny_letTemporaryGo (wpAny_pure h₃))) fun _ _ x => x)
  first
    | exact wpAny_pure (wpAny_bind fin)
    | exact wpAny_bind (wpAny_pure (wpAny_bind fin))
    | exact wpAny_bind fin

theorem dict_typeIs {X : Cx} {pins : List (Addr × Obj)} {σ : St} {H : Hp} {s : Shared} {a : Addr} {y : V} {o : Option V} (I : Inv X pins σ H s) (g : DGet H a y o) : s.TypeIs (.ref a) "dict" := by
  rcases g with ⟨kvs, k, e, _, _⟩ | ⟨kvs, k, b, e, _, _, _⟩
  · obtain ⟨_, _, vs, _, dd⟩ := dk_rd I.hok e
    exact dd.typeIs
  · obtain ⟨_, _, xs, _, dd⟩ := dt_rd I.hok e
    exact dd.typeIs
/-- d[y] -/
def tDGet (td ty : TE) : TE := fun σ H Q => td σ H fun x H1 => ty σ H1 fun y H2 => ∃ a v, x = .ref a ∧ DGet H2 a y (some v) ∧ Q v H2
/-- y in d, y not in d -/
def tDIn (ty td : TE) : TE := fun σ H Q => ty σ H fun y H1 => td σ H1 fun x H2 => ∃ a o, x = .ref a ∧ DGet H2 a y o ∧ Q (.bl o.isSome) H2
def tDNotIn (ty td : TE) : TE := fun σ H Q => ty σ H fun y H1 => td σ H1 fun x H2 => ∃ a o, x = .ref a ∧ DGet H2 a y o ∧ Q (.bl (!o.isSome)) H2
/-- d[y] = v -/
def sDPut (td ty tv : TE) : TS := fun D σ H => tv σ H fun v H1 => td σ H1 fun x H2 => ty σ H2 fun y H3 => ∃ a H4, x = .ref a ∧ DPut H3 a y v H4 ∧ D.nx σ H4
/-- d[y] op= v -/
def sDAug (td ty tv : TE) (rd : V → V → Hp → VK → Prop) : TS := fun D σ H => td σ H fun x H1 => ty σ H1 fun y H2 => ∃ a v, x = .ref a ∧ DGet H2 a y (some v) ∧
  tv σ H2 fun y2 H3 => rd v y2 H3 fun z H4 => ∃ H5, DPut H4 a y z H5 ∧ D.nx σ H5
/-- del d[y] -/
def sDDel (td ty : TE) : TS := fun D σ H => td σ H fun x H1 => ty σ H1 fun y H2 => ∃ a kvs k, x = .ref a ∧ H2 a = some (.dK kvs) ∧ y = kV k ∧ (valV kvs k).isSome = true ∧ D.nx σ (upd H2 a (.dK (dropK kvs k)))

section
variable {X : Cx} {o i e value : Expr} {pos pos' tpos : Pos} {td ty tv : TE}
end


/-! ### displays -/
theorem dk_empty {P : Program} {w : World} {H : Hp} (h : Heap) (hb : sysModules < h.objs.size) : ObjOk P w H (h.push { cls := .type "dict", data := .dict #[] }) h.objs.size (.dK []) :=
  ⟨Nat.zero_le _, beq_eq_false_iff_ne.mpr (Ne.symm (Nat.ne_of_lt hb)), [], .nil, Heap.DictOf.new h⟩
/-- {}, to be a dict of the kind that is wanted -/
def tDNewK : TE := fun _ H Q => ∀ p, H p = none → Q (.ref p) (upd H p (.dK []))
def tDNewT : TE := fun _ H Q => ∀ p, H p = none → Q (.ref p) (upd H p (.dT []))
section
variable {X : Cx} {pos : Pos}
theorem pe_dnewK : PE X (.Dict [] [] pos) tDNewK := fun pins s σ H Q I h =>
  wpAny_Dict_empty ⟨.ref s.heap.objs.size, _, I.laid (a := s.heap.objs.size) (o := .dK []) (t' := s.toks) (fun _ _ q => Heap.get?_push_of_some _ q) (Nat.le_refl _) (dk_empty s.heap I.big), rfl, h _ (I.hok.fresh (Nat.le_refl _))⟩
end

/-- the pairs of a display, from the left -/
def tPairs : List (TE × TE) → St → Hp → (List (V × V) → Hp → Prop) → Prop
  | [], _, H, Q => Q [] H
  | (tk, tv) :: r, σ, H, Q => tk σ H fun x H1 => tv σ H1 fun y H2 => tPairs r σ H2 fun ps H3 => Q ((x, y) :: ps) H3
abbrev VV : List (V × V) → List (Value × Value) → Prop := Paired fun p q => RelV p.1 q.1 ∧ RelV p.2 q.2
def PPs (X : Cx) (pos : Pos) (keys : List (Option Expr)) (values : List Expr) (trs : List (TE × TE)) : Prop :=
  ∀ (pins : List (Addr × Obj)) (s : Shared) (σ : St) (H : Hp) (Q : List (V × V) → Hp → Prop), Inv X pins σ H s → tPairs trs σ H Q →
    wpAny (model X.prog X.w) X.A (evalPairs (pairTrees keys values X.env pos)) (fun vs s' => ∃ ps H', Inv X pins σ H' s' ∧ VV ps vs ∧ Q ps H') X.xe s
theorem pps_nil {X : Cx} {pos : Pos} : PPs X pos [] [] [] := fun pins s σ H Q I h => pairTrees_nil_walk ⟨[], H, I, .nil, h⟩
theorem pps_cons {X : Cx} {pos : Pos} {k v : Expr} {ks : List (Option Expr)} {vs : List Expr} {tk tv : TE} {trs : List (TE × TE)} (hk : PE X k tk) (hv : PE X v tv) (hr : PPs X pos ks vs trs) :
    PPs X pos (some k :: ks) (v :: vs) ((tk, tv) :: trs) := fun pins s σ H Q I h =>
  pairTrees_cons_walk (thn (hk pins s σ H _ I h) fun u s1 ⟨x, H1, I1, rx, q1⟩ => thn (hv pins s1 σ H1 _ I1 q1) fun w2 s2 ⟨y, H2, I2, ry, q2⟩ =>
    thn (hr pins s2 σ H2 _ I2 q2) fun ws s3 ⟨ps, H3, I3, rel, q3⟩ => ⟨(x, y) :: ps, H3, I3, .cons ⟨rx, ry⟩ rel, q3⟩)

def mergeK (kvs more : List (Key × V)) : List (Key × V) := more.foldl (fun acc kv => putK acc kv.1 kv.2) kvs
theorem KV.merge : ∀ {more : List (Key × V)} {rs : List (Key × Value)} {kvs : List (Key × V)} {vs : List (Key × Value)}, KV more rs → KV kvs vs → KV (mergeK kvs more) (merged vs rs) := by
  intro more rs kvs vs r
  unfold KV at r
  induction r generalizing kvs vs with
  | nil => intro q; exact q
  | @cons p q ps qs h t ih =>
    intro r0
    have e : KV (putK kvs p.1 p.2) (stored vs q.1 q.2) := by
      have := r0.put p.1 h.2
      rw [← h.1]; exact this
    exact ih e
theorem length_mergeK : ∀ (more kvs : List (Key × V)), (mergeK kvs more).length ≤ kvs.length + more.length
  | [], kvs => by show kvs.length ≤ kvs.length + 0; omega
  | p :: r, kvs => by
    have h1 := length_mergeK r (putK kvs p.1 p.2)
    have h2 := length_putK kvs p.1 p.2
    show (mergeK (putK kvs p.1 p.2) r).length ≤ _
    rw [List.length_cons]; omega
theorem carries_of {P : Program} {w : World} : ∀ {kvs : List (Key × V)} {ws : List (Value × Value)}, VV (kvs.map fun kv => (kV kv.1, kv.2)) ws → ∃ rs, Carries (mixKind P w) ws rs ∧ KV kvs rs
  | [], _, r => by rw [List.map_nil] at r; cases r; exact ⟨[], True.intro, .nil⟩
  | p :: kvs, _, r => by
    rw [List.map_cons] at r
    cases r with
    | @cons a b as bs h t =>
      obtain ⟨rs, c, q⟩ := carries_of (P := P) (w := w) t
      obtain ⟨b1, b2⟩ := b
      exact ⟨(p.1, b2) :: rs, ⟨kV_is h.1, rfl, c⟩, .cons ⟨rfl, h.2⟩ q⟩
/-- {k: v, ..} with keys ints and texts; the new dict stands empty while the pairs are made -/
def tDisp (trs : List (TE × TE)) : TE := fun σ H Q => ∀ p, H p = none → tPairs trs σ (upd H p (.dK [])) fun ps H2 => H2 p = some (.dK []) ∧ ∃ kvs : List (Key × V), ps = kvs.map (fun kv => (kV kv.1, kv.2)) ∧ kvs.length ≤ 15 ∧ Q (.ref p) (upd H2 p (.dK (mergeK [] kvs)))
theorem pe_disp {X : Cx} {pos : Pos} {keys : List (Option Expr)} {values : List Expr} {trs : List (TE × TE)} (h : PPs X pos keys values trs) (hall : keys.all (·.isSome) = true) (hl : keys.length = values.length) (h0 : keys ≠ [])
    (h15 : keys.length ≤ 15) : PE X (.Dict keys values pos) (tDisp trs) := by
  intro pins s σ H Q I q
  have hn := I.hok.fresh (Nat.le_refl s.heap.objs.size)
  have I1 := I.laid (a := s.heap.objs.size) (o := .dK []) (h' := s.heap.push { cls := .type "dict", data := .dict #[] }) (t' := s.toks) (fun _ _ q => Heap.get?_push_of_some _ q) (Nat.le_refl _) (dk_empty s.heap I.big)
  refine wpAny_Dict_walk (knd := mixKind X.prog X.w) hall hl h0 h15 (thn (h pins _ σ _ _ I1 (q _ hn)) fun ws s2 ⟨ps, H2, I2, rel, e, kvs, ep, lk, q2⟩ => ?_)
  subst ep
  obtain ⟨rs, c, rk⟩ := carries_of (P := X.prog) (w := X.w) rel
  obtain ⟨z, hd, vs0, r0, dd⟩ := dk_of I2.hok e
  cases r0
  refine ⟨rs, c, dd, fun h' dd' hs => ⟨.ref s.heap.objs.size, _, ?_, rfl, q2⟩⟩
  have hz : (mergeK [] kvs).length ≤ sizeLine := by
    have h1 := length_mergeK kvs []
    rw [List.length_nil] at h1
    rw [sizeLine_eq]; omega
  have he : ∃ q, h'.get? s.heap.objs.size = some q := let ⟨q, _, _, hq, _⟩ := dd'; ⟨q, hq⟩
  exact d_write I2 (by rw [e]; exact True.intro) hs he (dk_new hz hd (rk.merge .nil) dd')


/-! ### methods -/
/-- a method call o.m(e) of a built-in, with one argument: what must be seen of the text -/
structure M1 (X : Cx) (o : Expr) (m : Str) (apos : Pos) (e : Expr) (cpos : Pos) : Prop where
  base : attributeBase o m X.env (eval o X.env) = eval o X.env
  few : ((backTo cpos (starEach [e] X.env)).all (fun x => !x.1) && (backToKw cpos (keywordEach [] X.env)).all (fun x => x.1.isSome)
    && decide (([e] : List Expr).length + ([] : List Keyword).length + (if ([] : List Keyword).isEmpty then 0 else 1) < 30)) = true
  line : (apos.endLine == cpos.line) = true
  trees : backTo cpos (starEach [e] X.env) = [(false, eval e X.env)]
structure M2 (X : Cx) (o : Expr) (m : Str) (apos : Pos) (e f : Expr) (cpos : Pos) : Prop where
  base : attributeBase o m X.env (eval o X.env) = eval o X.env
  few : ((backTo cpos (starEach [e, f] X.env)).all (fun x => !x.1) && (backToKw cpos (keywordEach [] X.env)).all (fun x => x.1.isSome)
    && decide (([e, f] : List Expr).length + ([] : List Keyword).length + (if ([] : List Keyword).isEmpty then 0 else 1) < 30)) = true
  line : (apos.endLine == cpos.line) = true
  trees : backTo cpos (starEach [e, f] X.env) = [(false, eval e X.env), (false, eval f X.env)]

/-- a is a dict, whatever its keys -/
def IsD (H : Hp) (a : Addr) : Prop := (∃ kvs, Rd H a (.dK kvs)) ∨ ∃ kvs, Rd H a (.dT kvs)
section
variable {X : Cx} {pins : List (Addr × Obj)} {σ : St} {H : Hp} {s : Shared} {a : Addr} {y d : V} {u r : Value} {o : Option V} {A : Around} {E : Value → Shared → Prop}
end

def tDGet1 (td ty : TE) : TE := fun σ H Q => td σ H fun x H1 => ∃ a, x = .ref a ∧ IsD H1 a ∧ ty σ H1 fun y H2 => ∃ o, DGet H2 a y o ∧ Q (o.getD .non) H2
def tDGet2 (td ty tx : TE) : TE := fun σ H Q => td σ H fun x H1 => ∃ a, x = .ref a ∧ IsD H1 a ∧ ty σ H1 fun y H2 => tx σ H2 fun z H3 => ∃ o, DGet H3 a y o ∧ Q (o.getD z) H3
/-- d.pop(k): there; d.pop(k, x): there or not -/
def tDPop1 (td ty : TE) : TE := fun σ H Q => td σ H fun x H1 => ∃ a, x = .ref a ∧ IsD H1 a ∧ ty σ H1 fun y H2 => ∃ kvs k v, H2 a = some (.dK kvs) ∧ y = kV k ∧ valV kvs k = some v ∧ Q v (upd H2 a (.dK (dropK kvs k)))
def tDPop2 (td ty tx : TE) : TE := fun σ H Q => td σ H fun x H1 => ∃ a, x = .ref a ∧ IsD H1 a ∧ ty σ H1 fun y H2 => tx σ H2 fun z H3 => ∃ kvs k, H3 a = some (.dK kvs) ∧ y = kV k ∧
  (∀ v, valV kvs k = some v → Q v (upd H3 a (.dK (dropK kvs k)))) ∧ (valV kvs k = none → Q z H3)
section
variable {X : Cx} {o e f : Expr} {apos cpos : Pos} {td ty tx : TE}
end

/-! ### dict(d): a copy -/
section
variable {X : Cx} {pins : List (Addr × Obj)} {σ : St} {H : Hp} {s : Shared} {a : Addr} {kvs : List (Key × V)} {A : Around} {E : Value → Shared → Prop}
end


section
variable {X : Cx} {pins : List (Addr × Obj)} {σ : St} {H : Hp} {s : Shared} {a : Addr} {y : V} {u : Value} {A : Around} {E : Value → Shared → Prop}
end
end L2

namespace L2
open PySem PySem.Spec PyProof.Rows
/-! ### sorted -/
section
variable {X : Cx}
def rSortS (K : PySem.W.Frag) : List V → Hp → VK → Prop := fun xs H Q => ∃ a, ∃ ss : List Str, xs = [.ref a] ∧ SqL K H a (ss.map V.str) ∧ ss.length < 64 ∧ ∀ (p : Addr) (ss' : List Str), ss'.Perm ss → sortedS ss' = true → H p = none → Q (.ref p) (upd H p (.lst (ss'.map V.str)))
def rSortI (K : PySem.W.Frag) : List V → Hp → VK → Prop := fun xs H Q => ∃ a, ∃ ns : List Int, xs = [.ref a] ∧ SqL K H a (ns.map V.int) ∧ ns.length < 64 ∧ ∀ (p : Addr) (ns' : List Int), ns'.Perm ns → ns'.Pairwise (· ≤ ·) → H p = none → Q (.ref p) (upd H p (.lst (ns'.map V.int)))
def rSortDS : List V → Hp → VK → Prop := fun xs H Q => ∃ a kvs, ∃ ss : List Str, xs = [.ref a] ∧ H a = some (.dK kvs) ∧ kvs.map (·.1) = ss.map Sum.inr ∧ kvs.length < 64 ∧ ∀ (p : Addr) (ss' : List Str), ss'.Perm ss → sortedS ss' = true → H p = none → Q (.ref p) (upd H p (.lst (ss'.map V.str)))
def rSortDI : List V → Hp → VK → Prop := fun xs H Q => ∃ a kvs, ∃ ns : List Int, xs = [.ref a] ∧ H a = some (.dK kvs) ∧ kvs.map (·.1) = ns.map Sum.inl ∧ kvs.length < 64 ∧ ∀ (p : Addr) (ns' : List Int), ns'.Perm ns → ns'.Pairwise (· ≤ ·) → H p = none → Q (.ref p) (upd H p (.lst (ns'.map V.int)))
end
end L2

namespace L2
open PySem PySem.Spec PyProof.Rows PySem.W
/-- None in a list of flat things and tuples -/
def rInN (K : PySem.W.Frag) : R2 := fun x y H Q => ∃ p xs, x = .non ∧ y = .ref p ∧ SqL K H p xs ∧ (∀ v ∈ xs, flatV v = true ∨ ∃ a ys, v = .ref a ∧ SqT K H a ys) ∧ Q (.bl (xs.any fun v => decide (v = .non))) H
def isNU : Value → Bool
  | .none => true
  | _ => false
section
variable {X : Cx}
/-- a tuple in a tuple of tuples -/
def rInD (K : PySem.W.Frag) : R2 := fun x y H Q => ∃ a p us, ∃ e : Addr → Bool, x = .ref a ∧ y = .ref p ∧ SqT K H p us ∧ (∀ u ∈ us, ∃ b, u = .ref b ∧ DEq K H 40 u x (e b)) ∧ ∃ t : Bool, (us.any fun u => match u with | .ref b => e b | _ => false) = t ∧ Q (.bl t) H
def isDU (e : Addr → Bool) : Value → Bool
  | .ref b => e b
  | _ => false
/-- == of two lists, its answer told beside -/
def rEqLt (K : PySem.W.Frag) : R2 := fun x y H Q => ∃ a b xs ys, ∃ e : Nat → Bool, ∃ t : Bool, x = .ref a ∧ y = .ref b ∧ SqL K H a xs ∧ SqL K H b ys ∧ (∀ (j : Nat) x y, xs[j]? = some x → ys[j]? = some y → DEq K H 40 x y (e j)) ∧
  ((List.range (min xs.length ys.length)).all e && xs.length == ys.length) = t ∧ Q (.bl t) H
end
end L2

namespace L2
open PySem PySem.Spec PyProof.Rows
/-! ### name = [ .. for .. ]: the name is stored ahead of the block's end -/
theorem ps_comp {X : Cx} {iy : Nat} {y : Str} {py spos : Pos} {elt tg iter : Expr} {ifs : List Expr} {scope : Scope} {pos : Pos} {N' : List Str} {cl : List (Str × Addr)} {wi : TI} {g : TG} {tt : TT} {te : TE} (σf : St → St)
    (hc : X.calm = true) (hkind : scope.kind = .function) (hcell : ∀ y ∈ scope.names, y.2 ≠ .cell) (hnames : ∀ y ∈ scope.names, y.2 = .local → scope.names.lookup y.1 = some .local) (hcl : ClOk X scope cl)
    (hN : ∀ σ : St, σ.length = X.N.length → BlkN X N' scope cl σ (σf σ)) (hi : PI X tg iter wi)
    (hg : ∀ C s₀ H₀ ex pn, PG (blk X N' scope cl C s₀ H₀ ex pn) tg g) (ht : ∀ C s₀ H₀ ex pn, PIfs (blk X N' scope cl C s₀ H₀ ex pn) ifs tt) (he : ∀ C s₀ H₀ ex pn, PE (blk X N' scope cl C s₀ H₀ ex pn) elt te)
    (hnd : X.N.Nodup) (hiy : X.N[iy]? = some y) (hy : Loc X.env.scope y) (hfy : X.fn y = true ∨ X.env.scope.names.lookup y = some .local)
    (hsw : swapsWith (.ListComp elt [⟨tg, iter, ifs, 0⟩] scope pos) (some (.Name y py)) spos.line X.env = pure true)
    (hs : ∀ x, foldedSetIterable iter X.env x = pure x := by intro _; rfl) : PS X (.Assign [.Name y py] (.ListComp elt [⟨tg, iter, ifs, 0⟩] scope pos) spos) (tAsg (tComp σf wi g tt te) (gName iy)) := by
  intro pins s σ H Dn I h
  rw [exec_Assign_Name_used _ _ _ _ hsw]
  refine wpAny_bind (wpAny_standAt (wpAny_bind ?_))
  show wpAny _ X.A (do let _ ← comprehension (.ListComp elt [⟨tg, iter, ifs, 0⟩] scope pos) scope X.env _ (newList []) false (eval iter X.env) (some (assign (.Name y py) X.env))) _ _ s
  refine wpAny_bind (wpAny_mono (wpAny_comprehension_free (use := some (assign (.Name y py) X.env)) (Q := fun _ s' => SP X pins Dn .next s') rfl hs hcl.run hkind hnames
    (thn (hi pins s σ H _ I h) fun v s1 h1 => thn h1 fun itv s2 h2 => ?_)) (fun _ s' hq => wpAny_pure (wpAny_pure hq)) fun _ _ e => e)
  obtain ⟨it, fp, tn, J, H2, rfl, I2, T, st2, f2, q⟩ := h2
  refine wpAny_newObj_type (wpAny_newFunctionEnv hcell (by intro y hy; simp at hy) (fun h₁ hns₁ hsb₁ => ?_) hkind)
  dsimp only at hns₁ hsb₁ ⊢
  have hfo : ∀ b ∈ fp, b < s2.heap.objs.size := fun b hb => by
    obtain ⟨o, e, _⟩ := T.obj _ _ st2 b hb
    exact Heap.lt_size e
  have hDf : H2 s2.heap.objs.size = none := I2.hok.fresh (Nat.le_refl _)
  obtain ⟨W, ⟨m0, w0⟩, turn⟩ := q s2.heap.objs.size hDf
  have I3 : Inv X pins σ (upd H2 s2.heap.objs.size (.lst [])) { s2 with heap := s2.heap.push { cls := .type "list", data := .seq ([] : List Value).toArray } } := I2.lnew (its := []) (t' := s2.toks) .nil (Nat.zero_le _)
  have f3 : ∀ b ∈ fp, FpOk X pins (upd H2 s2.heap.objs.size (.lst [])) b := fun b hb => ⟨by rw [upd_ne (Nat.ne_of_lt (hfo b hb))]; exact (f2 b hb).1, (f2 b hb).2⟩
  generalize hD : s2.heap.objs.size = D at *
  generalize hs3 : ({ s2 with heap := s2.heap.push { cls := .type "list", data := .seq ([] : List Value).toArray } } : Shared) = s3 at *
  have hh3 : s3.heap = s2.heap.push { cls := .type "list", data := .seq ([] : List Value).toArray } := by rw [← hs3]
  have hsz3 : s2.heap.objs.size < s3.heap.objs.size := by rw [hh3, Heap.size_push]; exact Nat.lt_succ_self _
  have e3 : ∀ h t, ({ s2 with heap := h, toks := t } : Shared) = { s3 with heap := h, toks := t } := fun h t => by rw [← hs3]
  rw [← hh3] at hns₁ hsb₁ ⊢
  have hk3 : ∀ b o, s3.heap.get? b = some o → h₁.get? b = some o := fun b o e => hsb₁.extBut b o (Nat.ne_of_lt (Heap.lt_size e)) (Heap.get?_push_of_some _ e)
  have I4 := blk_start (t' := s3.toks) I3 hkind hcl (hN σ I.len) f3 (fun b hb => Nat.lt_trans (hfo b hb) (hD ▸ hsz3)) (hns := by simpa using hns₁) hk3
  generalize hB : blk X N' scope cl s3.heap.objs.size s3 (upd H2 D (.lst [])) fp (X.pn ++ pins) = B at *
  have hBp : B.prog = X.prog := by rw [← hB]; rfl
  have hBw : B.w = X.w := by rw [← hB]; rfl
  have hBK : B.K = X.K := by rw [← hB]; rfl
  have hBA : B.A = X.A := by rw [← hB]; rfl
  have hBc : B.calm = true := by rw [← hB]; exact hc
  have hBe : B.env = compEnvC scope cl s3.heap.objs.size X.env := by rw [← hB]; rfl
  have hBx : B.xe = fun _ _ => False := by rw [← hB]; rfl
  have hGB : PG B tg g := hB ▸ hg _ _ _ _ _
  have hTB : PIfs B ifs tt := hB ▸ ht _ _ _ _ _
  have hEB : PE B elt te := hB ▸ he _ _ _ _ _
  have stat : ∀ {H' : Hp}, (∀ b ∈ fp, H' b = none) → ∀ b ∈ fp, FpOk B [] H' b := fun {H'} hn b hb => by
    obtain ⟨f0, f1, f2', f3', f4, f5⟩ := f3 b hb
    rw [← hB]
    refine ⟨hn b hb, Nat.ne_of_lt (Nat.lt_trans (hfo b hb) (hD ▸ hsz3)), fun z => ?_, .inl hb, fun x c e => f4 x c (hcl.sub x c e), fun p hp => ?_⟩
    · rcases List.mem_cons.mp (I.stkSub b z) with z | z
      · exact f1 z
      · exact f2' z
    · rw [show (blk X N' scope cl s3.heap.objs.size s3 (upd H2 D (.lst [])) fp (X.pn ++ pins)).pn = X.pn ++ pins from rfl, List.append_nil] at hp
      exact f5 p hp
  have loop : ∀ s4 : Shared, Inv B [] (σf σ) (upd H2 D (.lst [])) s4 → tn 0 s4.heap →
      codeAny (model X.prog X.w) X.A (.compLoop (.ListComp elt [⟨tg, iter, ifs, 0⟩] scope pos) 0 (.ref it) (.ref D) (compEnvC scope cl s3.heap.objs.size X.env)) (compPost (model X.prog X.w) X.A X.xe (some (assign (.Name y py) X.env)) (fun _ s' => SP X pins Dn .next s') (.ref D) s3.heap.objs.size) s4 := by
    intro s4 I4 st4
    refine compLoop_gen (I := fun n s' => ∃ i ys H', Inv B [] (σf σ) H' s' ∧ tn i s'.heap ∧ (∀ b ∈ fp, H' b = none) ∧ W i n ys H') ?_ m0 ⟨0, [], _, I4, st4, fun b hb => (f3 b hb).1, w0⟩
    rintro n s5 ⟨i, ys, H5, I5, st5, fr5, w5⟩
    obtain ⟨hD5, hlen5, alt⟩ := turn i n ys H5 w5
    rcases alt with ⟨stop, qn⟩ | ⟨go, step⟩
    · have z := T.done B hBp hBw hBK hBc i [] s5 (σf σ) H5 (fun _ _ => False) I5 (stat fr5) st5 stop
      rw [hBA] at z
      refine thn z fun r s6 ⟨hr, I6⟩ => ?_
      subst hr
      obtain ⟨m6, hn6, _⟩ := I6.loc
      rw [hBe] at hn6
      subst hB
      have I6x : Inv X pins σ H5 s6 := blk_end I3 f3 I6 (h'' := s6.heap) ⟨rfl, fun _ _ => rfl⟩
      have fC : FpOk X pins H5 s3.heap.objs.size := I3.fpOk (Nat.le_refl _) I6.free
      obtain ⟨g0, g1, g2, g3, g4, g5⟩ := id fC
      obtain ⟨oC, es, ep, hoC, hdC, rest⟩ := hn6
      have I6p := I6x.pinned (fp := [s3.heap.objs.size]) (fun b hb => by rw [List.mem_singleton.mp hb]; exact fC) (fun b hb => ⟨oC, by rw [List.mem_singleton.mp hb]; exact hoC, fun v e => by rw [hdC] at e; cases e⟩)
      show wpAny (model X.prog X.w) X.A (assign (.Name y py) X.env (.ref D)) _ X.xe s6
      refine thn (pg_name (i := iy) (pos := py) hnd hiy hy hfy _ s6 σ H5 (.ref D) (.ref D) (fun σ' H' => Dn.nx σ' H') I6p rfl qn) fun _ s7 ⟨σ7, H7, I7, q7⟩ => ?_
      have pc := I7.pin (s3.heap.objs.size, oC) (List.mem_append_right _ (List.mem_append_right _ (mem_pinsAt (by simp) hoC)))
      refine ⟨m6, ⟨oC, es, ep, pc.1, hdC, rest⟩, fun h' hs' => ⟨σ7, H7, ?_, q7⟩⟩
      exact I7.unpinned.turned (t' := s7.toks) (fun b o hb e => hs'.extBut b o hb e) pc.2.1 g1 g3 g4 g5
    · have z := T.item B hBp hBw hBK hBc i [] s5 (σf σ) H5 (fun _ _ => False) I5 (stat fr5) st5 go
      rw [hBA] at z
      refine thn z fun r s6 ⟨u, hr, h6⟩ => ?_
      subst hr
      refine thn h6 fun _ s7 ⟨x, H7, I7, r7, y7, st7, fr7⟩ => ?_
      have I7' := I7.pinned (stat fr7) (T.obj _ _ st7)
      have z8 := hGB _ s7 (σf σ) H7 x u _ I7' r7 (step x H7 y7)
      rw [hBp, hBw, hBA, hBe, hBx] at z8
      refine thn z8 fun _ s8 ⟨σ8, H8, I8, k8, q8⟩ => ?_
      have z9 := hTB _ s8 σ8 H8 _ I8 q8
      rw [hBp, hBw, hBA, hBe, hBx] at z9
      refine thn z9 fun ok s9 ⟨H9, I9, q9⟩ => ?_
      have again : ∀ {ys' : List V} {H' : Hp} {s' : Shared}, Inv B ([] ++ pinsAt fp s7.heap) σ8 H' s' → (∃ m', m' < n ∧ W (i + 1) m' ys' H') → ∃ m, m < n ∧ ∃ i ys H', Inv B [] (σf σ) H' s' ∧ tn i s'.heap ∧ (∀ b ∈ fp, H' b = none) ∧ W i m ys H' := fun {ys' H' s'} J ⟨m', hm, w'⟩ => by
        refine ⟨m', hm, i + 1, ys', H', J.unpinned.weak k8.len.symm k8.at', T.keep _ _ _ st7 fun b hb o e => (J.pin (b, o) (List.mem_append_right _ (List.mem_append_right _ (mem_pinsAt hb e)))).1, fun b hb => ?_, w'⟩
        obtain ⟨o, e, d⟩ := T.obj _ _ st7 b hb
        exact (J.pin (b, o) (List.mem_append_right _ (List.mem_append_right _ (mem_pinsAt hb e)))).2.1
      cases ok with
      | false => exact again I9 q9
      | true =>
        have z10 := hEB _ s9 σ8 H9 _ I9 q9
        rw [hBp, hBw, hBA, hBe, hBx] at z10
        refine thn z10 fun y10 s10 ⟨y, H10, I10, r10, hD10, q10⟩ => ?_
        have z11 := mt_append (X := B) _ s10 σ8 H10 (.ref D) [y] (.ref D) [y10] (fun _ H' => ∃ m', m' < n ∧ W (i + 1) m' (ys ++ [y]) H') I10 rfl (.cons r10 .nil) ⟨D, ys, y, rfl, rfl, hD10, hlen5, q10⟩
        rw [hBp, hBw, hBA, hBx] at z11
        refine thn z11 fun _ s11 ⟨_, H11, I11, _, q11⟩ => again I11 q11
  have st4 : tn 0 ({ s3 with heap := h₁, toks := s3.toks } : Shared).heap := T.keep _ _ _ st2 fun b hb o e => hk3 b o (by rw [hh3]; exact Heap.get?_push_of_some _ e)
  have L4 := loop _ I4 st4
  subst hs3
  exact codeAny_compStart_list L4 (T.self _ 0 _ _ _ st4 L4)
theorem ps_compC {X : Cx} {iy : Nat} {y : Str} {py spos : Pos} {elt tg iter : Expr} {ifs : List Expr} {scope : Scope} {pos : Pos} {N' : List Str} {wi : TI} {g : TG} {tt : TT} {te : TE} (σf : St → St)
    (hc : X.calm = true) (hkind : scope.kind = .function) (hcell : ∀ y ∈ scope.names, y.2 ≠ .cell) (hnames : ∀ y ∈ scope.names, y.2 = .local → scope.names.lookup y.1 = some .local)
    (hk : ∀ y ∈ scope.names, y.2 = NameKind.free → X.env.kindOf y.1 = some .cell ∨ X.env.kindOf y.1 = some .free)
    (hN : ∀ cl (σ : St), σ.length = X.N.length → BlkN X N' scope cl σ (σf σ)) (hi : PI X tg iter wi)
    (hg : ∀ cl C s₀ H₀ ex pn, PG (blk X N' scope cl C s₀ H₀ ex pn) tg g) (ht : ∀ cl C s₀ H₀ ex pn, PIfs (blk X N' scope cl C s₀ H₀ ex pn) ifs tt) (he : ∀ cl C s₀ H₀ ex pn, PE (blk X N' scope cl C s₀ H₀ ex pn) elt te)
    (hnd : X.N.Nodup) (hiy : X.N[iy]? = some y) (hy : Loc X.env.scope y) (hfy : X.fn y = true ∨ X.env.scope.names.lookup y = some .local)
    (hsw : swapsWith (.ListComp elt [⟨tg, iter, ifs, 0⟩] scope pos) (some (.Name y py)) spos.line X.env = pure true)
    (hs : ∀ x, foldedSetIterable iter X.env x = pure x := by intro _; rfl) : PS X (.Assign [.Name y py] (.ListComp elt [⟨tg, iter, ifs, 0⟩] scope pos) spos) (tAsg (tComp σf wi g tt te) (gName iy)) := by
  intro pins s σ H D I h
  obtain ⟨cl, hcl⟩ := clOk_of I.ok hcell hk
  exact ps_comp σf hc hkind hcell hnames hcl (hN cl) hi (hg cl) (ht cl) (he cl) hnd hiy hy hfy hsw hs pins s σ H D I h
end L2

namespace L2
open PySem PySem.Spec PyProof.Rows
/-! ### comprehensions, by what each element is -/
/-- an iterator that gives the things xs, as long as the heap only grows -/
structure Ys (J : It) (xs : List V) (H1 : Hp) : Prop where
  go : ∀ i H, Same H1 H → i < xs.length → J.go i H
  yld : ∀ i H x H', Same H1 H → i < xs.length → J.yld i H x H' → H' = H ∧ xs[i]? = some x
  stop : ∀ i H, Same H1 H → xs.length ≤ i → J.stop i H
def rngV (lo : Int) (n : Nat) : List V := (List.range n).map fun (i : Nat) => V.int (lo + (i : Int))
/-! ### rules within a comprehension: the module is named, so that the reading does not hang on the block -/
theorem ix_listK {X : Cx} {K : PySem.W.Frag} (h : X.K = K) : IxR X (rIxL K) := h ▸ ix_list
end L2

/-! ### lists of lists: copies, comprehensions of lists, ==; methods within a comprehension -/
namespace L2
open PySem PySem.Spec PyProof.Rows
end L2

/-! ### x in a list of things of any kind -/
namespace L2
open PySem PySem.Spec PyProof.Rows PySem.W
def toV : Value → V
  | .bool b => .bl b
  | .int i _ => .int i
  | .str z _ => .str z
  | .ref a => .ref a
  | _ => .non
theorem toV_of {v : V} {u : Value} (r : RelV v u) (h : Sf v) : toV u = v := by
  rcases h with h | ⟨a, rfl⟩
  · cases v with
    | non => cases r; rfl
    | bl b => cases r; rfl
    | int i => obtain ⟨t, rfl⟩ := r; rfl
    | str z => obtain ⟨t, rfl⟩ := r; rfl
    | _ => exact absurd (show false = true from h) Bool.false_ne_true
  · cases r
    rfl
def rInG (K : PySem.W.Frag) : R2 := fun x y H Q => ∃ p us, ∃ e : V → Bool, y = .ref p ∧ SqL K H p us ∧ (∀ u ∈ us, Sf u ∧ DEq K H 40 u x (e u)) ∧ Q (.bl (us.any e)) H
theorem any_toV {e : V → Bool} : ∀ {xs : List V} {us : List Value}, Vals xs us → (∀ v ∈ xs, Sf v) → us.any (fun u => e (toV u)) = xs.any e
  | _, _, .nil, _ => rfl
  | y :: xs, u :: us, .cons r t, f => by
    rw [List.any_cons, List.any_cons, any_toV t fun v hv => f v (List.mem_cons_of_mem _ hv), toV_of r (f y (List.mem_cons_self ..))]
section
variable {X : Cx}
theorem mem_toV {pins : List (Addr × Obj)} {σ : St} {H : Hp} {s : Shared} (I : Inv X pins σ H s) {A : Around} (hu : A.units + 40 < cLine) {e : V → Bool} {x : V} {v : Value} (rx : RelV x v) : ∀ {xs : List V} {us : List Value}, Vals xs us → (∀ u ∈ xs, Sf u ∧ DEq X.K H 40 u x (e u)) → ∀ u ∈ us, SeqAt.EqAt A s u v (e (toV u))
  | _, _, .nil, _ => fun u hu => by cases hu
  | y :: xs, u :: us, .cons r t, f => fun u' hu' => by
    rcases List.mem_cons.mp hu' with rfl | hu'
    · obtain ⟨sf, hd⟩ := f y (List.mem_cons_self ..)
      rw [toV_of r sf]
      exact DEq.at I hd hu r rx
    · exact mem_toV I hu rx t (fun v hv => f v (List.mem_cons_of_mem _ hv)) u' hu'
theorem op_inG (hu : X.A.units + 64 < cLine) : OpR X (compareOp .In) (rInG X.K) := by
  intro pins s σ H x y v u Q I rx ry h
  obtain ⟨p, us, e, rfl, hq, fs, q⟩ := h
  cases ry
  obtain ⟨its, r, pl, hz⟩ := I.list hq
  have hu' : X.A.in1.units + 40 < cLine := by
    have : X.A.in1.units = X.A.units + 1 := rfl
    omega
  refine SeqAt.in_listAt (fun u => e (toV u)) pl.isList (fun w hw => mem_toV I hu' rx r fs w (by simpa using hw)) ⟨.bl _, H, I, rfl, ?_⟩
  rw [show its.toArray.any (fun u => e (toV u)) = its.any (fun u => e (toV u)) by simp, any_toV r fun v hv => (fs v hv).1]
  exact q
end
end L2

/-! ### keys that are tuples of a plain thing and a tuple of plain things -/
namespace NK
open PySem PySem.Spec PyProof.Rows
section
variable {prog : Program} {w : World} {K : Type} [DecidableEq K] (knd : KeyKind prog w K)
def IsPairKey (h : Heap) (k : K × List K) (a : Addr) : Prop := ∃ o v b n, h.get? a = some o ∧ o.cls = .type "tuple" ∧ o.data = .seq #[v, .ref b] n ∧ knd.is k.1 v = true ∧ IsTupleKey knd h k.2 b
variable {knd}
theorem IsPairKey.typeIs {s : Shared} {k : K × List K} {a : Addr} (x : IsPairKey knd s.heap k a) : s.TypeIs (.ref a) "tuple" := let ⟨o, _, _, _, ho, hc, _⟩ := x; ⟨o, ho, hc⟩
theorem IsPairKey.inj {h : Heap} {a : Addr} {x y : K × List K} (hx : IsPairKey knd h x a) (hy : IsPairKey knd h y a) : x = y := by
  obtain ⟨o, v, b, n, ho, _, hd, hi, hj⟩ := hx
  obtain ⟨o', v', b', n', ho', _, hd', hi', hj'⟩ := hy
  obtain rfl : o = o' := Option.some.inj (ho.symm.trans ho')
  rw [hd] at hd'
  injection hd' with h1 _
  have h2 := congrArg Array.toList h1
  injection h2 with h3 h4
  injection h4 with h5 _
  injection h5 with h6
  subst h3 h6
  exact Prod.ext (knd.inj _ _ _ hi hi') (hj.inj hj')
theorem IsPairKey.keeps {h h' : Heap} {k : K × List K} {a d : Addr} {o : Obj} {es ep} (x : IsPairKey knd h k a) (ho : h.get? d = some o) (hd : o.data = .dict es ep) (hs : Heap.SameBut d h h') : IsPairKey knd h' k a := by
  obtain ⟨o', v, b, n, ho', hc, hd', hi, hj⟩ := x
  have hne : a ≠ d := by
    rintro rfl
    obtain rfl : o' = o := Option.some.inj (ho'.symm.trans ho)
    rw [hd] at hd'; exact nomatch hd'
  exact ⟨o', v, b, n, (hs.2 a hne).trans ho', hc, hd', hi, hj.keeps ho hd hs⟩
def pairKeyHash (knd : KeyKind prog w K) (k : K × List K) : Int := reduceHash (Builtin.Tuple.tupleHashOf [knd.hash k.1, tupleKeyHash knd k.2])
variable {A : Around} {E : Value → Shared → Prop} {s : Shared}
theorem pyHash_pair {k : K × List K} {a : Addr} {Q : Int → Shared → Prop} (hu : A.units + 1 < cLine) (hk : IsPairKey knd s.heap k a) (h : Q (pairKeyHash knd k) { s with toks := s.toks + (k.2.length + 3) }) :
    wpAny (model prog w) A (pyHash (.ref a)) Q E s := by
  have hT := hk.typeIs
  obtain ⟨o, v, b, n, ho, _, hd, hi, hj⟩ := hk
  unfold pyHash
  first | unfold pyHashByItsType | skip
  first | refine wpAny_bind (wpAny_cRoomFor_or (.inr (by omega)) ?_) | skip
  refine wpAny_bind (wpAny_specialOf hT F.slot_tuple_hash.lookup ?_)
  show wpAny _ _ (if (some (Value.builtin "tuple.__hash__") == some Value.none) = true then _ else _) Q E s
  rw [if_neg (by rw [beq_builtin_none]; exact Bool.false_ne_true)]
  refine wpAny_bind (wpAny_specialOf hT F.slot_tuple_hash.lookup ?_)
  show wpAny _ _ (callSpecialIfBoundUnlessNone? (.ref a) "__hash__" _ >>= _) Q E s
  refine wpAny_bind (wpAny_callSpecialIfBoundUnlessNone?_slot hT F.slot_tuple_hash (wpAny_call_entry F.slot_tuple_hash hT F.entry_tuple_hash ?_ (F.args_tuple_hash_1 _)))
  show wpAny _ _ (Builtin.Tuple.tupleItemsOf (.ref a) >>= _) _ _ s
  refine wpAny_bind (wpAny_tupleItemsOf ho hd ?_)
  refine wpAny_bind ?_
  rw [← Array.forIn_toList]
  refine wpAny_forIn_list _
    (fun rest (acc : Array Int) s' => (rest = [v, .ref b] ∧ acc.toList = [] ∧ s' = s) ∨ (rest = [.ref b] ∧ acc.toList = [knd.hash k.1] ∧ s' = { s with toks := s.toks + 1 }) ∨ (rest = [] ∧ acc.toList = [knd.hash k.1, tupleKeyHash knd k.2] ∧ s' = { s with toks := s.toks + 1 + (k.2.length + 1) }))
    _ ?_ ?_ _ _ (.inl ⟨rfl, rfl, rfl⟩)
  · rintro x rest acc s' (⟨e, ha, rfl⟩ | ⟨e, ha, rfl⟩ | ⟨e, _⟩)
    · injection e with e1 e2
      subst e1 e2
      refine wpAny_bind (knd.pyHash hi ?_)
      first
        | exact wpAny_pure (.inr (.inl ⟨rfl, by simp [ha], rfl⟩))
        | exact wpAny_bind (wpAny_pure (wpAny_pure (.inr (.inl ⟨rfl, by simp [ha], rfl⟩))))
    · injection e with e1 e2
      subst e1 e2
      refine wpAny_bind (wpAny_pyHash_tuple (ks := k.2) (by first | exact hu | (show _ < _; simp only [Around.in1]; omega)) hj ?_)
      first
        | exact wpAny_pure (.inr (.inr ⟨rfl, by simp [ha], rfl⟩))
        | exact wpAny_bind (wpAny_pure (wpAny_pure (.inr (.inr ⟨rfl, by simp [ha], rfl⟩))))
    · cases e
  · rintro acc s' (⟨e, _⟩ | ⟨e, _⟩ | ⟨_, ha, rfl⟩)
    · cases e
    · cases e
    show wpAny _ _ (retInt (Builtin.Tuple.tupleHashOf acc.toList)) _ _ _
    rw [ha]
    refine wpAny_ret_mkInt ?_
    show wpAny _ _ (if (decide (-(2 : Int) ^ 63 ≤ Builtin.Tuple.tupleHashOf [knd.hash k.1, tupleKeyHash knd k.2]) && decide (Builtin.Tuple.tupleHashOf [knd.hash k.1, tupleKeyHash knd k.2] < 2 ^ 63)) = true then _ else _) Q E _
    unfold pairKeyHash reduceHash at h
    by_cases hr : (decide (-(2 : Int) ^ 63 ≤ Builtin.Tuple.tupleHashOf [knd.hash k.1, tupleKeyHash knd k.2]) && decide (Builtin.Tuple.tupleHashOf [knd.hash k.1, tupleKeyHash knd k.2] < 2 ^ 63)) = true
    · rw [if_pos hr]
      rw [if_pos hr] at h
      exact wpAny_pure (by simpa [Nat.add_assoc, Nat.add_comm, Nat.add_left_comm] using h)
    · rw [if_neg hr]
      rw [if_neg hr] at h
      exact wpAny_bind (wpAny_rule (wpAny_pure (by simpa [Nat.add_assoc, Nat.add_comm, Nat.add_left_comm] using h)))
theorem pair_eq_tree {x y : K × List K} {a b : Addr} {P : Fin → Shared → Prop} (hu : A.units < cLine) (hx : IsPairKey knd s.heap x a) (hy : IsPairKey knd s.heap y b) (h : P (.done (.ret (.bool (decide (x = y))))) s) :
    wpAny (model prog w) A (Builtin.«tuple.__eq__» ⟨[.ref a, .ref b], []⟩) P E s := by
  have hTb := hy.typeIs
  obtain ⟨oa, u, c, na, hoa, _, hda, hia, hja⟩ := hx
  obtain ⟨ob, v, d, nb, hob, _, hdb, hib, hjb⟩ := hy
  show wpAny _ _ (isInstance (.ref b) (.type "tuple") >>= _) _ _ s
  refine wpAny_bind (wpAny_isInstance hTb isSubtype_tuple_tuple ?_)
  simp only [Bool.not_true, Bool.false_eq_true, if_false]
  refine wpAny_bind (wpAny_tupleItemsOf hoa hda ?_)
  refine wpAny_bind (wpAny_tupleItemsOf hob hdb ?_)
  refine wpAny_bind ?_
  refine wpAny_forIn_list _
    (fun rest r s' => r.1 = none ∧ s' = s ∧ (rest = [(u, v), (.ref c, .ref d)] ∨ (rest = [(.ref c, .ref d)] ∧ x.1 = y.1) ∨ (rest = [] ∧ x = y)))
    _ ?_ ?_ _ _ ⟨rfl, rfl, .inl rfl⟩
  · rintro ⟨p, q⟩ rest r s' ⟨hr, rfl, e | ⟨e, e1⟩ | ⟨e, _⟩⟩
    · injection e with e1 e2
      injection e1 with e3 e4
      subst e2 e3 e4
      refine wpAny_bind (knd.eqBool (a := x.1) (b := y.1) hia hib ?_)
      by_cases hk : x.1 = y.1
      · rw [decide_eq_true hk]
        simp only [Bool.not_true, Bool.false_eq_true, if_false]
        exact wpAny_pure ⟨rfl, rfl, .inr (.inl ⟨by trivial, hk⟩)⟩
      · rw [decide_eq_false hk]
        simp only [Bool.not_false, if_true]
        rw [decide_eq_false (fun z => hk (by rw [z]))] at h
        exact wpAny_bind (wpAny_pure (wpAny_pure (wpAny_pure h)))
    · injection e with e2 e3
      injection e2 with e4 e5
      subst e3 e4 e5
      refine wpAny_bind (wpAny_eqBool_tuple (x := x.2) (y := y.2) hu hja hjb ?_)
      by_cases hk : x.2 = y.2
      · rw [decide_eq_true hk]
        simp only [Bool.not_true, Bool.false_eq_true, if_false]
        exact wpAny_pure ⟨rfl, rfl, .inr (.inr ⟨by trivial, Prod.ext e1 hk⟩)⟩
      · rw [decide_eq_false hk]
        simp only [Bool.not_false, if_true]
        rw [decide_eq_false (fun z => hk (by rw [z]))] at h
        exact wpAny_bind (wpAny_pure (wpAny_pure (wpAny_pure h)))
    · cases e
  · rintro ⟨r1, r2⟩ s' ⟨hr, rfl, e | ⟨e, _⟩ | ⟨_, e1⟩⟩
    · cases e
    · cases e
    simp only at hr
    subst hr
    refine wpAny_pure ?_
    show P (.done (.ret (.bool true))) s'
    rw [decide_eq_true e1] at h
    exact h
theorem eqBool_pair {x y : K × List K} {a b : Addr} {Q : Bool → Shared → Prop} (hu : A.units + 1 < cLine) (hx : IsPairKey knd s.heap x a) (hy : IsPairKey knd s.heap y b) (h : Q (decide (x = y)) s) :
    wpAny (model prog w) A (eqBool (.ref a) (.ref b)) Q E s := by
  unfold eqBool
  try with_reducible refine wpAny_holding ?_
  show wpAny _ _ (if (Value.ref a == Value.ref b) = true then _ else _) Q E s
  by_cases hab : (Value.ref a == Value.ref b) = true
  · rw [if_pos hab]
    have e : a = b := by have := eq_of_beq hab; injection this
    subst e
    obtain rfl := hx.inj hy
    exact wpAny_bind (wpAny_rule (wpAny_pure (by simpa using h)))
  · rw [if_neg hab]
    exact wpAny_bind (wpAny_richCompare_same_room (op := .Eq) hx.typeIs hy.typeIs F.slot_tuple_eq
      (wpAny_call_entry F.slot_tuple_eq hx.typeIs F.entry_tuple_eq (pair_eq_tree hu hx hy ⟨_, rfl, (fun e => nomatch e), wpAny_truthy_bool h⟩) (F.args_tuple_eq_2 _ _)) (by omega))
theorem quiet_tuple {ks : List K} {a : Addr} {n : Nat} {Q : Bool → Shared → Prop} (hk : IsTupleKey knd s.heap ks a) (h : Q true s) : wpAny (model prog w) A (eqIsQuiet (n + 1) (.ref a)) Q E s := by
  have hT := hk.typeIs
  obtain ⟨o, items, m, ho, _, hd, hi⟩ := hk
  unfold eqIsQuiet
  refine wpAny_bind (wpAny_specialOf hT F.slot_tuple_eq.lookup ?_)
  show wpAny _ _ (isInstance (.ref a) (.type "tuple") >>= _) _ _ s
  refine wpAny_bind (wpAny_isInstance hT isSubtype_tuple_tuple ?_)
  simp only [Bool.not_true, Bool.false_eq_true, if_false]
  refine wpAny_bind (wpAny_seqItems ho hd ?_)
  refine wpAny_bind ?_
  show wpAny _ _ (forIn items _ _) _ _ s
  rw [← Array.forIn_toList]
  refine wpAny_forIn_list _ (fun rest r s' => r.1 = none ∧ s' = s ∧ ∀ v ∈ rest, carriedByValue v = true) _ ?_ ?_ _ _ ⟨rfl, rfl, hi.byValue⟩
  · rintro v rest r s' ⟨hr, rfl, hall⟩
    rw [eqIsQuiet_byValue _ (hall v List.mem_cons_self)]
    refine wpAny_bind (wpAny_pure ?_)
    simp only [Bool.not_true, Bool.false_eq_true, if_false]
    exact wpAny_pure ⟨rfl, rfl, fun u hu' => hall u (List.mem_cons_of_mem _ hu')⟩
  · rintro ⟨r1, r2⟩ s' ⟨hr, rfl, _⟩
    simp only at hr
    subst hr
    exact wpAny_pure h
theorem quiet_pair {k : K × List K} {a : Addr} {Q : Bool → Shared → Prop} (hk : IsPairKey knd s.heap k a) (h : Q true s) : wpAny (model prog w) A (eqIsQuiet 8 (.ref a)) Q E s := by
  have hT := hk.typeIs
  obtain ⟨o, v, b, m, ho, _, hd, hi, hj⟩ := hk
  unfold eqIsQuiet
  refine wpAny_bind (wpAny_specialOf hT F.slot_tuple_eq.lookup ?_)
  show wpAny _ _ (isInstance (.ref a) (.type "tuple") >>= _) _ _ s
  refine wpAny_bind (wpAny_isInstance hT isSubtype_tuple_tuple ?_)
  simp only [Bool.not_true, Bool.false_eq_true, if_false]
  refine wpAny_bind (wpAny_seqItems ho hd ?_)
  refine wpAny_bind ?_
  show wpAny _ _ (forIn #[v, .ref b] _ _) _ _ s
  rw [← Array.forIn_toList]
  refine wpAny_forIn_list _ (fun rest r s' => r.1 = none ∧ s' = s ∧ ∀ u ∈ rest, carriedByValue u = true ∨ u = .ref b) _ ?_ ?_ _ _ ⟨rfl, rfl, fun u hu => ?_⟩
  · rintro u rest r s' ⟨hr, rfl, hall⟩
    have go : wpAny (model prog w) A (eqIsQuiet 7 u) (fun z s1 => z = true ∧ s1 = s') E s' := by
      rcases hall u List.mem_cons_self with e | rfl
      · rw [eqIsQuiet_byValue _ e]
        exact wpAny_pure ⟨rfl, rfl⟩
      · exact quiet_tuple hj ⟨rfl, rfl⟩
    refine wpAny_bind (wpAny_mono go (fun z s1 hz => ?_) fun _ _ e => e)
    obtain ⟨rfl, rfl⟩ := hz
    simp only [Bool.not_true, Bool.false_eq_true, if_false]
    exact wpAny_pure ⟨rfl, rfl, fun u hu' => hall u (List.mem_cons_of_mem _ hu')⟩
  · rintro ⟨r1, r2⟩ s' ⟨hr, rfl, _⟩
    simp only at hr
    subst hr
    exact wpAny_pure h
  · simp only [List.mem_cons, List.not_mem_nil, or_false] at hu
    rcases hu with rfl | rfl
    · exact .inl (knd.byValue _ _ hi)
    · exact .inr rfl
end
def pairKind {prog : Program} {w : World} {K : Type} [DecidableEq K] (knd : KeyKind prog w K) : HeapKind prog w (K × List K) where
  is := IsPairKey knd
  hash := pairKeyHash knd
  draws := fun k => k.2.length + 3
  room := fun A => A.units + 1 < cLine
  inj := fun hx hy => hx.inj hy
  keeps := fun x ho hd hs => x.keeps ho hd hs
  pyHash := fun hu hk h => pyHash_pair hu hk h
  eqBool := fun hu hx hy h => eqBool_pair hu hx hy h
  quiet := fun hk h => quiet_pair hk h
end NK

/-! ### dicts whose keys are tuples (x, (y, ..)) -/
namespace L2
open PySem PySem.Spec PyProof.Rows
abbrev NKey := Key × List Key
/-- the key k lies at c -/
def KeyAt (H : Hp) (k : NKey) (c : Addr) : Prop := ∃ b, H c = some (.tup [kV k.1, .ref b]) ∧ H b = some (.tup (k.2.map kV))
theorem KeyAt.keep {H H' : Hp} {k : NKey} {c : Addr} (h : KeyAt H k c) (t : ∀ b ys, H b = some (.tup ys) → H' b = some (.tup ys)) : KeyAt H' k c := let ⟨b, h1, h2⟩ := h; ⟨b, t _ _ h1, t _ _ h2⟩
abbrev KN (H : Hp) : List (NKey × V) → List (NKey × Addr × Value) → Prop := Paired fun p q => p.1 = q.1 ∧ KeyAt H p.1 q.2.1 ∧ RelV p.2 q.2.2
theorem KN.val {H : Hp} {kvs : List (NKey × V)} {xs : List (NKey × Addr × Value)} (r : KN H kvs xs) (k : NKey) : RelO (valV kvs k) ((atKey xs k).map (·.2)) := by
  induction r with
  | nil => exact True.intro
  | @cons p q ps qs h t ih =>
    obtain ⟨h1, _, h2⟩ := h
    by_cases e : p.1 = k
    · have e' : q.1 = k := h1.symm.trans e
      have b : atKey (q :: qs) k = some q.2 := by simp [atKey, List.find?_cons, e']
      rw [valV_pos e, b]; exact h2
    · have e' : ¬ q.1 = k := fun z => e (h1.trans z)
      have b : atKey (q :: qs) k = atKey qs k := by simp [atKey, List.find?_cons, e']
      rw [valV_neg e, b]; exact ih
theorem KN.repl {H : Hp} {kvs : List (NKey × V)} {xs : List (NKey × Addr × Value)} (r : KN H kvs xs) (k : NKey) {y : V} {u : Value} (ry : RelV y u) :
    KN H (kvs.map fun kv => if kv.1 = k then (kv.1, y) else kv) (xs.map (putAt k u)) := by
  induction r with
  | nil => exact .nil
  | @cons p q ps qs h t ih =>
    rw [List.map_cons, List.map_cons]
    refine .cons ?_ ih
    obtain ⟨h1, h2, h3⟩ := h
    unfold putAt
    by_cases e : p.1 = k
    · rw [if_pos e, if_pos (h1.symm.trans e)]; exact ⟨h1, h2, ry⟩
    · rw [if_neg e, if_neg (fun z => e (h1.trans z))]; exact ⟨h1, h2, h3⟩
theorem KN.put {H : Hp} {kvs : List (NKey × V)} {xs : List (NKey × Addr × Value)} (r : KN H kvs xs) (k : NKey) {b : Addr} {y : V} {u : Value} (hb : KeyAt H k b) (ry : RelV y u) : KN H (putK kvs k y) (storedH xs k b u) := by
  have e : (kvs.any fun kv => decide (kv.1 = k)) = (atKey xs k).isSome := by
    rw [valV_any, (r.val k).isSome_eq, Option.isSome_map]
  unfold putK storedH
  rw [e]
  by_cases q : (atKey xs k).isSome = true
  · rw [if_pos q, if_pos q]; exact r.repl k ry
  · rw [if_neg q, if_neg q]; exact Paired.snoc r ⟨rfl, hb, ry⟩
theorem KN.keeps {H H' : Hp} {kvs : List (NKey × V)} {xs : List (NKey × Addr × Value)} (r : KN H kvs xs) (ht : ∀ b ys, H b = some (.tup ys) → H' b = some (.tup ys)) : KN H' kvs xs :=
  Paired.mapP r fun _ _ z => ⟨z.1, z.2.1.keep ht, z.2.2⟩
def DObj (P : Program) (w : World) (a : Addr) (xs : List (NKey × Addr × Value)) (h : Heap) : Prop := ∃ o es ep, h.get? a = some o ∧ o.ExactDict ∧ o.data = .dict es ep ∧ es.toList = xs.map (entryOfKey (NK.pairKind (mixKind P w)))
theorem dobj_ok {P : Program} {w : World} {H : Hp} {h : Heap} {a : Addr} {xs : List (NKey × Addr × Value)} (d : DObj P w a xs h) : ObjOk P w H h a (.ext (DObj P w a xs)) := by
  refine ⟨d, let ⟨o, _, _, e, _⟩ := d; ⟨o, e⟩, fun h1 h2 k s => ?_⟩
  obtain ⟨o, es, ep, e, r⟩ := k
  exact ⟨o, es, ep, s _ e, r⟩
/-- a dict with such keys -/
structure ND (P : Program) (w : World) (H : Hp) (a : Addr) (kvs : List (NKey × V)) : Prop where
  ex : ∃ xs, H a = some (.ext (DObj P w a xs)) ∧ KN H kvs xs ∧ (xs.map (·.1)).Nodup
  z : kvs.length ≤ sizeLine
  ne : (a == sysModules) = false
section
variable {P : Program} {w : World} {H H' : Hp} {h : Heap} {a : Addr} {kvs : List (NKey × V)}
theorem ND.keep (n : ND P w H a kvs) (ha : ∀ o, H a = some o → H' a = some o) (ht : ∀ b ys, H b = some (.tup ys) → H' b = some (.tup ys)) : ND P w H' a kvs :=
  let ⟨xs, e, r, d⟩ := n.ex; ⟨⟨xs, ha _ e, r.keeps ht, d⟩, n.z, n.ne⟩
theorem keyN_of {k : NKey} {c : Addr} (ok : HOk P w H h) (q : KeyAt H k c) : NK.IsPairKey (mixKind P w) h k c := by
  obtain ⟨b, h1, h2⟩ := q
  obtain ⟨_, its, r, o, e1, e2, n, e3⟩ := (show ObjOk P w H h c (.tup [kV k.1, .ref b]) from ok c _ h1)
  obtain ⟨u, v, rfl, ru, rv⟩ := r.two
  obtain rfl : v = Value.ref b := rv
  exact ⟨o, u, b, n, e1, e2, e3, kV_is ru, key_of ok h2⟩
theorem nd_rd (ok : HOk P w H h) (n : ND P w H a kvs) : ∃ xs, H a = some (.ext (DObj P w a xs)) ∧ KN H kvs xs ∧ h.DictOfH (NK.pairKind (mixKind P w)) a xs := by
  obtain ⟨xs, e, r, d⟩ := n.ex
  obtain ⟨⟨o, es, ep, h1, h2, h3, h4⟩, _⟩ := (show ObjOk P w H h a (.ext (DObj P w a xs)) from ok a _ e)
  refine ⟨xs, e, r, o, es, ep, h1, h2, h3, h4, ?_, d⟩
  have all : ∀ {l : List (NKey × V)} {m : List (NKey × Addr × Value)}, KN H l m → ∀ x ∈ m, (NK.pairKind (mixKind P w)).is h x.1 x.2.1 := by
    intro l m q
    induction q with
    | nil => intro x hx; exact nomatch hx
    | @cons p q ps qs hq t ih =>
      intro x hx
      rcases List.mem_cons.mp hx with e | hx
      · subst e
        exact keyN_of ok (by rw [← hq.1]; exact hq.2.1)
      · exact ih x hx
  exact all r
end
theorem ND.len {P : Program} {w : World} {H : Hp} {a : Addr} {kvs : List (NKey × V)} {k : NKey} {v : V} (n : ND P w H a kvs) (l : kvs.length < sizeLine) : (putK kvs k v).length ≤ sizeLine := by have := length_putK kvs k v; omega
/-- a dict of ints, texts, tuples of them, or of tuples (x, (y, ..)) -/
def DGetX (P : Program) (w : World) (H : Hp) (a : Addr) (y : V) (r : Option V) : Prop := DGet H a y r ∨ ∃ kvs k b, ND P w H a kvs ∧ y = .ref b ∧ KeyAt H k b ∧ r = valV kvs k
def DPutX (P : Program) (w : World) (H : Hp) (a : Addr) (y v : V) (N : Hp → Prop) : Prop := (∃ H', DPut H a y v H' ∧ N H') ∨
  ∃ kvs k b, ND P w H a kvs ∧ y = .ref b ∧ KeyAt H k b ∧ kvs.length < sizeLine ∧ ∀ o, ND P w (upd H a o) a (putK kvs k v) → N (upd H a o)
section
variable {X : Cx} {pins : List (Addr × Obj)} {σ : St} {H : Hp} {s : Shared} {a : Addr} {y v : V} {u r : Value} {o : Option V} {A : Around} {E : Value → Shared → Prop}
theorem roomN (hu : A.units + 2 < cLine) : (NK.pairKind (mixKind X.prog X.w)).room A.in1 := hu
theorem dx_getItem {Q : Value → Shared → Prop} (hu : A.units + 2 < cLine) (I : Inv X pins σ H s) (g : DGetX X.prog X.w H a y (some v)) (ry : RelV y u) (h : ∀ w' s', Inv X pins σ H s' → RelV v w' → Q w' s') :
    wpAny (model X.prog X.w) A (getItem (.ref a) u) Q E s := by
  rcases g with g | ⟨kvs, k, b, n, rfl, eb, l⟩
  · exact d_getItem (by omega) I g ry h
  · cases (show u = Value.ref b from ry)
    obtain ⟨xs, _, rel, dd⟩ := nd_rd I.hok n
    obtain ⟨w', hw, rw'⟩ := RelO.some_of (v := v) (o := (atKey xs k).map (·.2)) (by rw [l]; exact rel.val k)
    obtain ⟨p, hp, hp2⟩ := Option.map_eq_some_iff.mp hw
    refine wpAny_getItem_heap (roomN hu) (keyN_of I.hok eb) dd hp ?_
    rw [hp2]
    exact h w' _ (I.tok _) rw'
theorem dx_notIn {Q : Value → Shared → Prop} (hu : A.units + 2 < cLine) (I : Inv X pins σ H s) (g : DGetX X.prog X.w H a y o) (ry : RelV y u) (h : ∀ s', Inv X pins σ H s' → Q (.bool (!o.isSome)) s') :
    wpAny (model X.prog X.w) A (compareOp .NotIn u (.ref a)) Q E s := by
  rcases g with g | ⟨kvs, k, b, n, rfl, eb, l⟩
  · exact d_notIn (by omega) I g ry h
  · cases (show u = Value.ref b from ry)
    obtain ⟨xs, _, rel, dd⟩ := nd_rd I.hok n
    refine wpAny_notIn_heap (roomN hu) (keyN_of I.hok eb) n.ne dd ?_
    have q := (rel.val k).isSome_eq
    rw [Option.isSome_map] at q
    rw [← q, ← l]
    exact h _ (I.tok _)
/-- the dict's object behind a store -/
theorem nd_put {h' : Heap} {kvs : List (NKey × V)} {k : NKey} {b : Addr} {xs : List (NKey × Addr × Value)} {tk : Nat} (I : Inv X pins σ H s) (n : ND X.prog X.w H a kvs) (e : H a = some (.ext (DObj X.prog X.w a xs))) (rel : KN H kvs xs) (eb : KeyAt H k b) (rv : RelV v r) (l : kvs.length < sizeLine)
    (dd' : h'.DictOfH (NK.pairKind (mixKind X.prog X.w)) a (storedH xs k b r)) (hs : Heap.SameBut a s.heap h') :
    ∃ o, ND X.prog X.w (upd H a o) a (putK kvs k v) ∧ Inv X pins σ (upd H a o) { s with heap := h', toks := tk } := by
  obtain ⟨q, es, ep, hq, h2, h3, h4, _, h5⟩ := dd'
  have ht : ∀ c ys, H c = some (.tup ys) → upd H a (.ext (DObj X.prog X.w a (storedH xs k b r))) c = some (.tup ys) := fun c ys ec => by
    rw [upd_ne (ne_of ec e (fun z => nomatch z))]
    exact ec
  refine ⟨.ext (DObj X.prog X.w a (storedH xs k b r)), ⟨⟨_, upd_same, (rel.put k eb rv).keeps ht, h5⟩, n.len l, n.ne⟩, ?_⟩
  exact d_write I (by rw [e]; exact True.intro) hs ⟨q, hq⟩ (dobj_ok ⟨q, es, ep, hq, h2, h3, h4⟩)
theorem dx_setItem {N : Hp → Prop} {Q : Unit → Shared → Prop} (hu : A.units + 2 < cLine) (I : Inv X pins σ H s) (g : DPutX X.prog X.w H a y v N) (ry : RelV y u) (rv : RelV v r) (h : ∀ H' s', N H' → Inv X pins σ H' s' → Q () s') :
    wpAny (model X.prog X.w) A (setItem (.ref a) u r) Q E s := by
  rcases g with ⟨H', g, k⟩ | ⟨kvs, k, b, n, rfl, eb, l, g⟩
  · exact d_setItem (by omega) I g ry rv fun s' I' => h _ _ k I'
  · cases (show u = Value.ref b from ry)
    obtain ⟨xs, e, rel, dd⟩ := nd_rd I.hok n
    have hz : xs.length ≤ sizeLine := by rw [← Paired.length rel]; exact n.z
    refine wpAny_setItem_heap (hsz := hz) (roomN hu) (keyN_of I.hok eb) dd fun h' dd' hs => ?_
    obtain ⟨o, n', I'⟩ := nd_put (tk := s.toks + (NK.pairKind (mixKind X.prog X.w)).draws k) I n e rel eb rv l dd' hs
    exact h _ _ (g o n') I'
theorem dx_typeIs (I : Inv X pins σ H s) (g : DGetX X.prog X.w H a y o) : s.TypeIs (.ref a) "dict" := by
  rcases g with g | ⟨kvs, k, b, n, _, eb, l⟩
  · exact dict_typeIs I g
  · obtain ⟨xs, _, _, dd⟩ := nd_rd I.hok n
    exact dd.typeIs
end
def tDGetX (P : Program) (w : World) (td ty : TE) : TE := fun σ H Q => td σ H fun x H1 => ty σ H1 fun y H2 => ∃ a v, x = .ref a ∧ DGetX P w H2 a y (some v) ∧ Q v H2
def tDInX (P : Program) (w : World) (ty td : TE) : TE := fun σ H Q => ty σ H fun y H1 => td σ H1 fun x H2 => ∃ a o, x = .ref a ∧ DGetX P w H2 a y o ∧ Q (.bl o.isSome) H2
def tDNotInX (P : Program) (w : World) (ty td : TE) : TE := fun σ H Q => ty σ H fun y H1 => td σ H1 fun x H2 => ∃ a o, x = .ref a ∧ DGetX P w H2 a y o ∧ Q (.bl (!o.isSome)) H2
def sDPutX (P : Program) (w : World) (td ty tv : TE) : TS := fun D σ H => tv σ H fun v H1 => td σ H1 fun x H2 => ty σ H2 fun y H3 => ∃ a, x = .ref a ∧ DPutX P w H3 a y v (D.nx σ)
/-- {}, of either kind -/
def tDNewX (P : Program) (w : World) : TE := fun _ H Q => (∀ p, H p = none → Q (.ref p) (upd H p (.dK []))) ∨ ∀ p o, H p = none → ND P w (upd H p o) p [] → Q (.ref p) (upd H p o)
/-- {k: v}, of either kind -/
def tDisp1X (P : Program) (w : World) (tk tv : TE) : TE := fun σ H Q => tDisp [(tk, tv)] σ H Q ∨ ∀ p o, H p = none → ND P w (upd H p o) p [] →
  tk σ (upd H p o) fun x H1 => tv σ H1 fun y H2 => ND P w H2 p [] ∧ ∃ k b, x = .ref b ∧ KeyAt H2 k b ∧ ∀ o', ND P w (upd H2 p o') p [(k, y)] → Q (.ref p) (upd H2 p o')
section
variable {X : Cx} {o i e value : Expr} {pos pos' tpos : Pos} {td ty tv tk : TE}
theorem pe_dgetX (hu : X.A.units + 2 < cLine) (ho : PE X o td) (hi : PE X i ty) (hs : NoSl i) : PE X (.Subscript o i pos) (tDGetX X.prog X.w td ty) := by
  intro pins s σ H Q I h
  refine subD_of PySem.F.slot_dict_getitem.lookup hs (thn (ho pins s σ H _ I h) fun u s1 ⟨x, H1, I1, rx, q1⟩ => thn (hi pins s1 σ H1 _ I1 q1) fun iv s2 ⟨y, H2, I2, ry, a, v, ex, g, q2⟩ => ?_)
  subst ex
  obtain rfl : u = Value.ref a := rx
  exact ⟨dx_typeIs I2 g, dx_getItem hu I2 g ry fun w' s3 I3 rw' => ⟨v, H2, I3, rw', q2⟩⟩
theorem pc_dnotinX (hu : X.A.units + 2 < cLine) (hi : PE X i ty) (ho : PE X o td) : PC X .NotIn i o (tDNotInX X.prog X.w ty td) := by
  intro pins s σ H Q I h
  refine thn (hi pins s σ H _ I h) fun iv s1 ⟨y, H1, I1, ry, q1⟩ => thn (ho pins s1 σ H1 _ I1 q1) fun u s2 ⟨x, H2, I2, rx, a, ov, ex, g, q2⟩ => ?_
  subst ex
  obtain rfl : u = Value.ref a := rx
  exact dx_notIn hu I2 g ry fun s3 I3 => ⟨.bl (!ov.isSome), H2, I3, rfl, q2⟩
theorem ps_dputX (hu : X.A.units + 2 < cLine) (ho : PE X o td) (hi : PE X i ty) (hv : PE X value tv) (hs : swapsWith value (some (.Subscript o i pos')) pos.line X.env = pure false) :
    PS X (.Assign [.Subscript o i pos'] value pos) (sDPutX X.prog X.w td ty tv) := by
  intro pins s σ H D I h
  refine wpAny_Assign_Subscript (thn (hv pins s σ H _ I h) fun r s1 ⟨v, H1, I1, rv, q1⟩ => thn (ho pins s1 σ H1 _ I1 q1) fun u s2 ⟨x, H2, I2, rx, q2⟩ => thn (hi pins s2 σ H2 _ I2 q2) fun iv s3 ⟨y, H3, I3, ry, a, ex, g⟩ => ?_) hs
  subst ex
  obtain rfl : u = Value.ref a := rx
  exact dx_setItem hu I3 g ry rv fun H' s4 q I4 => ⟨σ, H', I4, q⟩
theorem nd_empty {P : Program} {w : World} {H : Hp} (h : Heap) (hb : sysModules < h.objs.size) : ObjOk P w (upd H h.objs.size (.ext (DObj P w h.objs.size []))) (h.push { cls := .type "dict", data := .dict #[] }) h.objs.size (.ext (DObj P w h.objs.size [])) ∧ ND P w (upd H h.objs.size (.ext (DObj P w h.objs.size []))) h.objs.size [] :=
  ⟨dobj_ok ⟨_, #[], 0, Heap.get?_push_size _ rfl, ⟨rfl, rfl, rfl⟩, rfl, rfl⟩, ⟨⟨[], upd_same, .nil, List.nodup_nil⟩, Nat.zero_le _, beq_eq_false_iff_ne.mpr (Ne.symm (Nat.ne_of_lt hb))⟩⟩
theorem pe_dnewX : PE X (.Dict [] [] pos) (tDNewX X.prog X.w) := fun pins s σ H Q I h => by
  rcases h with h | h
  · exact pe_dnewK pins s σ H Q I h
  · obtain ⟨h1, h2⟩ := nd_empty (P := X.prog) (w := X.w) (H := H) s.heap I.big
    exact wpAny_Dict_empty ⟨.ref s.heap.objs.size, _, I.laid (a := s.heap.objs.size) (t' := s.toks) (fun _ _ q => Heap.get?_push_of_some _ q) (Nat.le_refl _) h1, rfl, h _ _ (I.hok.fresh (Nat.le_refl _)) h2⟩
theorem pe_disp1X (hu : X.A.units + 1 < cLine) (hk : PE X i tk) (hv : PE X e tv) : PE X (.Dict [some i] [e] pos) (tDisp1X X.prog X.w tk tv) := fun pins s σ H Q I h => by
  rcases h with h | h
  · exact pe_disp (pps_cons hk hv pps_nil) rfl rfl (by simp) (by simp) pins s σ H Q I h
  · obtain ⟨h1, h2⟩ := nd_empty (P := X.prog) (w := X.w) (H := H) s.heap I.big
    have hn := I.hok.fresh (Nat.le_refl s.heap.objs.size)
    have I1 := I.laid (a := s.heap.objs.size) (h' := s.heap.push { cls := .type "dict", data := .dict #[] }) (t' := s.toks) (fun _ _ q => Heap.get?_push_of_some _ q) (Nat.le_refl _) h1
    have h' := h _ _ hn h2
    refine wpAny_Dict_any rfl rfl (by simp) (by simp) (pairTrees_cons_walk (thn (hk pins _ σ _ _ I1 h') fun u s2 ⟨x, H2, I2, rx, q2⟩ => thn (hv pins s2 σ H2 _ I2 q2) fun w3 s3 ⟨y, H3, I3, ry, n3, k, b, ex, eb, q3⟩ => pairTrees_nil_walk ?_))
    subst ex
    obtain rfl : u = Value.ref b := rx
    unfold storeAll
    rw [List.forIn_cons]
    obtain ⟨xs, e, rel, dd⟩ := nd_rd I3.hok n3
    have hz : xs.length ≤ sizeLine := by rw [← Paired.length rel]; exact n3.z
    refine wpAny_bind (wpAny_bind (wpAny_dictSet_heap (hsz := hz) (knd := NK.pairKind (mixKind X.prog X.w)) hu (keyN_of I3.hok eb) dd fun h4 dd' hs => ?_))
    obtain ⟨o, n', I'⟩ := nd_put (tk := s3.toks + (NK.pairKind (mixKind X.prog X.w)).draws k) I3 n3 e rel eb ry (by decide) dd' hs
    refine wpAny_pure ?_
    show wpAny _ _ (forIn [] _ _) _ _ _
    rw [List.forIn_nil]
    exact wpAny_pure ⟨.ref s.heap.objs.size, _, I', rfl, q3 o n'⟩
end
end L2

namespace L2
open PySem PySem.Spec PyProof.Rows
/-! ### zip of a tuple and a list -/
section
variable {prog : Program} {w : World} {A : Around} {E : Value → Shared → Prop} {s : Shared}
/-- the objects of a zip are apart -/
structure Ap (z TI TO i1 i2 : Addr) (f1 f2 : List Addr) : Prop where
  a1 : ∀ b ∈ f1, b ≠ z ∧ b ≠ TO ∧ b ≠ i2
  a2 : ∀ b ∈ f2, b ≠ z ∧ b ≠ TO ∧ b ≠ i1
  m1 : i1 ∈ f1
  m2 : i2 ∈ f2
  tz : TI ≠ z
  tO : TI ≠ TO
  t1 : TI ≠ i1
  t2 : TI ≠ i2
  oz : TO ≠ z
section
variable {z TI TO i1 i2 : Addr} {f1 f2 : List Addr} {n1 n2 k : Nat} {P1 P2 : Nat → Value → Prop} {S1 S2 : Nat → Heap → Prop} {a b : Value}
end
end
/-- the i-th items of a tuple and of a list, in a new tuple -/
def Itz (K : PySem.W.Frag) (a b : Addr) : It :=
  ⟨fun i H => ∃ xs ys, SqT K H a xs ∧ SqL K H b ys ∧ i < xs.length ∧ i < ys.length,
   fun i H v H' => ∃ T, H T = none ∧ v = .ref T ∧ ∀ xs ys, SqT K H a xs → SqL K H b ys → ∃ x y, xs[i]? = some x ∧ ys[i]? = some y ∧ H' = upd H T (.tup [x, y]),
   fun i H => ∃ xs ys, SqT K H a xs ∧ SqL K H b ys ∧ (i = xs.length ∨ (i < xs.length ∧ i = ys.length))⟩
/-- a zip's objects, laid one behind another from n on -/
def ZipSt (n a b : Nat) (i : Nat) (h : Heap) : Prop := IsZip h (n + 4) (n + 2) (n + 3) .none ∧ IsPair h (n + 2) (.ref n) (.ref (n + 1)) ∧ (∃ x y, IsPair h (n + 3) x y) ∧ h.IsTupleIter n a i ∧ h.IsListIter (n + 1) b i
abbrev zo1 (h : Heap) (a : Addr) : Heap := h.push { cls := .type "tuple_iterator", data := .fields #[.ref a, .int 0 0] }
abbrev zo2 (h : Heap) (a b : Addr) : Heap := (zo1 h a).push { cls := .type "list_iterator", data := .fields #[.ref b, .int 0 0] }
abbrev zo3 (h : Heap) (a b : Addr) : Heap := (zo2 h a b).push { cls := .type "tuple", data := .seq #[.ref h.objs.size, .ref (zo1 h a).objs.size] }
abbrev zo4 (h : Heap) (a b : Addr) : Heap := (zo3 h a b).push { cls := .type "tuple", data := .seq #[.none, .none] }
abbrev zo5 (h : Heap) (a b : Addr) : Heap := (zo4 h a b).push { cls := .type "zip", data := .fields #[.none, .bool false, .bool false, .ref (zo2 h a b).objs.size, .ref (zo3 h a b).objs.size] }
def iZip (K : PySem.W.Frag) (ta : TA) : TI := fun σ H R => ta σ H fun vs H1 => ∃ a b, vs = [.ref a, .ref b] ∧ (∃ xs, SqT K H1 a xs) ∧ (∃ ys, SqL K H1 b ys) ∧ R (Itz K a b) H1
end L2

namespace L2
open PySem PySem.Spec PyProof.Rows
variable {X : Cx}
/-! ### xs[::-1] of a list -/
def tRev (K : PySem.W.Frag) (te : TE) (tk : TO) : TE := fun σ H Q => te σ H fun x H1 => tk σ H1 fun st H2 => st = some (-1) ∧ ∃ a xs, x = .ref a ∧ SqL K H2 a xs ∧ ∀ p, H2 p = none → Q (.ref p) (upd H2 p (.lst xs.reverse))
/-! ### list(range(a, b)) -/
def tListRng (ta : TA) : TE := fun σ H Q => ta σ H fun vs H1 => ∃ i j : Int, vs = [.int i, .int j] ∧ (-(2 ^ 62) ≤ i ∧ i < 2 ^ 62 ∧ -(2 ^ 62) ≤ j ∧ j < 2 ^ 62) ∧ (j - i).toNat ≤ 1000 ∧ ∀ p, H1 p = none → Q (.ref p) (upd H1 p (.lst (rngV i (j - i).toNat)))
/-! ### list(d.values()) -/
def tListVals (td : TE) : TE := fun σ H Q => td σ H fun x H1 => ∃ a kvs, x = .ref a ∧ H1 a = some (.dK kvs) ∧ ∀ p, H1 p = none → Q (.ref p) (upd H1 p (.lst (kvs.map (·.2))))
end L2

namespace L2
open PySem PySem.Spec PyProof.Rows
/-- the i-th items of a tuple and of a list, in a new tuple -/
def Itz2 (K : PySem.W.Frag) (a b : Addr) : It :=
  ⟨fun i H => ∃ xs ys, SqT K H a xs ∧ SqT K H b ys ∧ i < xs.length ∧ i < ys.length,
   fun i H v H' => ∃ T, H T = none ∧ v = .ref T ∧ ∀ xs ys, SqT K H a xs → SqT K H b ys → ∃ x y, xs[i]? = some x ∧ ys[i]? = some y ∧ H' = upd H T (.tup [x, y]),
   fun i H => ∃ xs ys, SqT K H a xs ∧ SqT K H b ys ∧ (i = xs.length ∨ (i < xs.length ∧ i = ys.length))⟩
/-- a zip's objects, laid one behind another from n on -/
def ZipSt2 (n a b : Nat) (i : Nat) (h : Heap) : Prop := IsZip h (n + 4) (n + 2) (n + 3) .none ∧ IsPair h (n + 2) (.ref n) (.ref (n + 1)) ∧ (∃ x y, IsPair h (n + 3) x y) ∧ h.IsTupleIter n a i ∧ h.IsTupleIter (n + 1) b i
abbrev yo1 (h : Heap) (a : Addr) : Heap := h.push { cls := .type "tuple_iterator", data := .fields #[.ref a, .int 0 0] }
abbrev yo2 (h : Heap) (a b : Addr) : Heap := (yo1 h a).push { cls := .type "tuple_iterator", data := .fields #[.ref b, .int 0 0] }
abbrev yo3 (h : Heap) (a b : Addr) : Heap := (yo2 h a b).push { cls := .type "tuple", data := .seq #[.ref h.objs.size, .ref (yo1 h a).objs.size] }
abbrev yo4 (h : Heap) (a b : Addr) : Heap := (yo3 h a b).push { cls := .type "tuple", data := .seq #[.none, .none] }
abbrev yo5 (h : Heap) (a b : Addr) : Heap := (yo4 h a b).push { cls := .type "zip", data := .fields #[.none, .bool false, .bool false, .ref (yo2 h a b).objs.size, .ref (yo3 h a b).objs.size] }
def iZip2 (K : PySem.W.Frag) (ta : TA) : TI := fun σ H R => ta σ H fun vs H1 => ∃ a b, vs = [.ref a, .ref b] ∧ (∃ xs, SqT K H1 a xs) ∧ (∃ ys, SqT K H1 b ys) ∧ R (Itz2 K a b) H1
end L2

namespace L2
open PySem PySem.Spec PyProof.Rows
variable {X : Cx}
/-! ### list(d): the keys of a dict, texts -/
def rListD : List V → Hp → VK → Prop := fun xs H Q => ∃ a kvs, ∃ ss : List Str, xs = [.ref a] ∧ H a = some (.dK kvs) ∧ kvs.map (·.1) = ss.map Sum.inr ∧ ∀ p, H p = none → Q (.ref p) (upd H p (.lst (ss.map V.str)))
/-! ### list(range(a, b, c)) -/
def tListRng3 (ta : TA) : TE := fun σ H Q => ta σ H fun vs H1 => ∃ i j c : Int, vs = [.int i, .int j, .int c] ∧ (-(2 ^ 20) ≤ i ∧ i < 2 ^ 20 ∧ -(2 ^ 20) ≤ j ∧ j < 2 ^ 20 ∧ 1 ≤ c ∧ c < 2 ^ 20) ∧ (j - i) / c ≤ 900 ∧
  ∀ p (ms : List Int), (∀ x ∈ ms, i ≤ x ∧ x < j) → (ms.length : Int) ≤ max 0 ((j - i - 1) / c + 1) → H1 p = none → Q (.ref p) (upd H1 p (.lst (ms.map V.int)))
end L2

namespace L2
open PySem PySem.Spec PyProof.Rows
variable {X : Cx}
/-! ### a dict walked: it is held still from then on -/
/-- the keys of a dict that is held still -/
def Itd (d : Addr) (ob : Obj) (kvs : List (Key × V)) : It :=
  ⟨fun i H => H d = some (.frz ob (.dK kvs)) ∧ i < kvs.length, fun i H v H' => H' = H ∧ ∃ kv, kvs[i]? = some kv ∧ v = kV kv.1, fun i H => H d = some (.frz ob (.dK kvs)) ∧ kvs.length ≤ i⟩
def iDict (tl : TE) : TI := fun σ H R => tl σ H fun x H1 => ∃ d kvs, x = .ref d ∧ H1 d = some (.dK kvs) ∧ ∀ ob, R (Itd d ob kvs) (upd H1 d (.frz ob (.dK kvs)))
end L2

/-! ### a dict that was walked may change again; dict.update; min(one int, default=None) -/
namespace L2
open PySem PySem.Spec PyProof.Rows
def tThaw (H₀ : Hp) (te : TE) : TE := fun σ H Q => te σ H fun v H' => ∃ d ob kvs, H' d = some (.frz ob (.dK kvs)) ∧ (∀ o u, H₀ d ≠ some (.frz o u)) ∧ Q v (upd H' d (.dK kvs))
def rUpd : V → List V → Hp → VK → Prop := fun x vs H Q => ∃ d o kvs more, x = .ref d ∧ vs = [.ref o] ∧ d ≠ o ∧ H d = some (.dK kvs) ∧ H o = some (.dK more) ∧ kvs.length + more.length ≤ 1000 ∧ Q .non (upd H d (.dK (mergeK kvs more)))
section
variable {prog : Program} {w : World} {A : Around} {E : Value → Shared → Prop} {s : Shared}
end
end L2
namespace L2
open PySem PySem.Spec PyProof.Rows
def tMinD (te : TE) : TE := fun σ H Q => te σ H fun x H1 => ∃ l n, x = .ref l ∧ H1 l = some (.lst [.int n]) ∧ Q (.int n) H1
end L2

/-! ### methods, by their class; fields within a comprehension; a walked dict behind a statement -/
namespace L2
open PySem PySem.Spec PyProof.Rows
/-- a method of the class that may be called -/
structure MCal (P : Program) (w : World) (K : PySem.W.Frag) (mg : Str → Option Value) (base : Heap) (CX : CXT) (k : Nat) (C : Addr) (m : Str) (ps : List Str) (sp : Sp) : Prop where
  ex : ∃ (f : Addr) (fd : FuncData), Meth K C m f ∧ Binds K fd ps [] ∧ FnOk P w K mg base CX k f fd ps sp
section
variable {X : Cx} {CX : CXT} {k : Nat} {C : Addr} {m : Str} {ps : List Str} {sp : Sp} {E : XK} {o e : Expr} {es : List Expr} {ta : TE} {t : TA} {apos pos : Pos}
end
def tThawS (H₀ : Hp) (t : TS) : TS := fun D σ H => t { D with nx := fun σ' H' => ∃ d ob kvs, H' d = some (.frz ob (.dK kvs)) ∧ (∀ o u, H₀ d ≠ some (.frz o u)) ∧ D.nx σ' (upd H' d (.dK kvs)) } σ H
end L2

/-! ### sorted, by keys that all differ and may look at the heap -/
namespace L2.TS
open PySem PySem.Spec PyProof.Rows
abbrev Ky := List Nat
def ka (f : Value → Ky) (xs : Array Keyed) (i : Nat) : Ky := (xs[i]?.map fun p => f p.1).getD []
def Up (f : Value → Ky) (xs : Array Keyed) (n : Nat) : Prop := ∀ i j, i < j → j < n → ka f xs i < ka f xs j
def Dn (f : Value → Ky) (xs : Array Keyed) (n : Nat) : Prop := ∀ i j, i < j → j < n → ka f xs j < ka f xs i
def Df (f : Value → Ky) (xs : List Keyed) : Prop := xs.Pairwise fun p q => f p.1 ≠ f q.1
structure Sb (f : Value → Ky) (kd : SortKind) (o : Array Keyed) (st : SortSt) : Prop where
  pm : (arrOf st).Perm o
  kn : kindOf st = kd
  fl : failedOf st = none
  pe : pendingOf st = #[]
  df : Df f (arrOf st).toList
section
variable {prog : Program} {w : World} {A : Around} {E : Value → Shared → Prop} {s : Shared} {o : Array Keyed} {f : Value → Ky} {kd : SortKind}
/-- what a comparison of two of the values gives, at this heap -/
def Cmp (prog : Program) (w : World) (A : Around) (s : Shared) (kd : SortKind) (f : Value → Ky) (o : Array Keyed) : Prop :=
  ∀ (p q : Keyed) (E : Value → Shared → Prop) (Q : Bool → Shared → Prop), p ∈ o.toList → q ∈ o.toList → f p.1 ≠ f q.1 → Q (decide (f p.1 < f q.1)) s → wpAny (model prog w) A (keyLt' kd p.1 q.1) Q E s
end
end L2.TS

namespace L2.TS
open PySem PySem.Spec PyProof.Rows
section
variable {prog : Program} {w : World} {A : Around} {E : Value → Shared → Prop} {s : Shared} {o : Array Keyed} {f : Value → Ky} {kd : SortKind}
/-- where the k-th goes: l so that all before are less, all from it on are more -/
def At (f : Value → Ky) (xs : Array Keyed) (k l r : Nat) : Prop := (∀ i, i < l → ka f xs i < ka f xs k) ∧ ∀ i, r ≤ i → i < k → ka f xs k < ka f xs i
def Dne (f : Value → Ky) (o : Array Keyed) (st : SortSt) : Prop := (arrOf st).Perm o ∧ failedOf st = none ∧ (pendingOf st).size = 1 ∧ Up f (arrOf st) o.size
end
end L2.TS

/-! ### sorted of tuples whose first texts differ -/
namespace L2.TS
open PySem PySem.Spec PyProof.Rows
/-- a tuple whose first item is the text nm v -/
def Tp (h : Heap) (nm : Value → Str) (v : Value) : Prop := ∃ a o xs n t r, v = .ref a ∧ h.get? a = some o ∧ o.cls = .type "tuple" ∧ o.data = .seq xs n ∧ xs.toList = .str (nm v) t :: r
section
variable {prog : Program} {w : World} {A : Around} {E : Value → Shared → Prop} {s : Shared} {nm : Value → Str} {vs : List Value}
abbrev kf (nm : Value → Str) : Value → Ky := fun v => (nm v).cps.toList
end
end L2.TS
namespace L2
open PySem PySem.Spec PyProof.Rows
/-- the first text of the tuple there -/
def nmH (H : Hp) (a : Addr) : Str := match H a with
  | some (.tup (.str x :: _)) => x
  | _ => ⟨#[]⟩
def nmV (H : Hp) : Value → Str
  | .ref a => nmH H a
  | _ => ⟨#[]⟩
def adOf : Value → Addr
  | .ref a => a
  | _ => 0
def rSortT (K : PySem.W.Frag) : List V → Hp → VK → Prop := fun xs H Q => ∃ a as, xs = [.ref a] ∧ SqL K H a (as.map V.ref) ∧ as.length < 64 ∧ (∀ q ∈ as, ∃ x r, H q = some (.tup (.str x :: r))) ∧ (as.map (nmH H)).Nodup ∧
  ∀ (p : Addr) (as' : List Addr), as'.Perm as → (as'.Pairwise fun u v => (nmH H u).cps.toList < (nmH H v).cps.toList) → H p = none → Q (.ref p) (upd H p (.lst (as'.map V.ref)))
end L2

/-! ### sorted(xs, key=lambda x: x[k]), a def's table of codes tracked -/
namespace L2.LM
open PySem PySem.Spec PySem.Calls PyProof.Rows PySem.W
abbrev lbody (x : Str) (k : Int) (kd : Nat) (p1 p2 p3 : Pos) : Expr := .Subscript (.Name x p1) (.Constant (.int k) kd p2) p3
section
variable {prog : Program} {w : World} {A : Around} {E : Value → Shared → Prop} {s : Shared} {f c' q : Addr} {name qual x : Str} {params : Arguments} {scope : Scope} {pm ctv : Value} {k n : Int} {kd j : Nat} {p1 p2 p3 : Pos} {items : Array Value} {t : Tok}
end
end L2.LM
namespace L2
open PySem PySem.Spec PySem.Calls PyProof.Rows
section
variable {X : Cx} {pins : List (Addr × Obj)} {σ : St} {H : Hp} {s : Shared}
/-- a table grew, its new code is known to the object -/
theorem Inv.lamNew {P c' : Addr} {ps more : Array Value} {oc : Obj} {h' : Heap} {tk : Nat} (I : Inv X pins σ H s) (hP : H P = some (.tbl ps)) (hx : Heap.ExtBut P s.heap h') (hc : s.heap.objs.size ≤ c') (hoc : h'.get? c' = some oc)
    (htb : h'.get? P = some (PySem.W.tabObj (ps ++ more))) : Inv X pins σ (upd (upd H P (.tbl (ps ++ more))) c' (.frz oc (.own 0))) { s with heap := h', toks := tk } := by
  have hn : H c' = none := I.hok.fresh hc
  have nP : ∀ b u, H b = some u → (∀ ps, u ≠ .tbl ps) → b ≠ P := fun b u e n z => by rw [z, hP] at e; cases e; exact n _ rfl
  have nP0 : ∀ b, H b = none → b ≠ P := fun b e z => by rw [z, hP] at e; cases e
  have nc : ∀ b u, H b = some u → b ≠ c' := fun b u e => ne_of_none e hn
  have up : ∀ b u, H b = some u → (∀ ps, u ≠ .tbl ps) → upd (upd H P (.tbl (ps ++ more))) c' (.frz oc (.own 0)) b = some u := fun b u e n => by rw [upd_ne (nc b u e), upd_ne (nP b u e n)]; exact e
  refine I.step (g' := s.gens) (d' := s.drawn) (ch := []) (fun _ z => nomatch z) (fun b o _ _ _ e n => hx b o (nP0 b n) e) (fun b o _ _ _ e n => ⟨o.slots, hx b o (nP0 b n) e⟩)
    (fun b o _ e n => by rw [upd_ne (Nat.ne_of_lt (Nat.lt_of_lt_of_le (Heap.lt_size e) hc)), upd_ne (nP0 b n)]; exact n) (fun b o _ e => ?_) (fun b xs e => up b _ e fun _ z => by cases z) (fun b o u e => up b _ e fun _ z => by cases z) (fun b qs e => ?_)
    (fun m hm => ?_) (fun b u e => ?_) I.bare
  · by_cases hb : b = P
    · subst hb; exact ⟨_, htb⟩
    · exact ⟨o, hx b o hb e⟩
  · by_cases hb : b = P
    · subst hb
      rw [hP] at e; cases e
      exact ⟨more, by rw [upd_ne (nc b _ hP), upd_same]⟩
    · exact ⟨#[], by rw [upd_ne (nc b _ e), upd_ne hb, e]; simp⟩
  · obtain ⟨o, es, ep, ho, r⟩ := hm
    exact ⟨o, es, ep, hx _ o (nP0 _ I.free) ho, r⟩
  · by_cases hb : b = c'
    · subst hb
      rw [upd_same] at e; cases e
      exact ⟨hoc, oc, hoc⟩
    · rw [upd_ne hb] at e
      by_cases hb2 : b = P
      · subst hb2
        rw [upd_same] at e; cases e
        exact htb
      · rw [upd_ne hb2] at e
        refine (I.hok b u e).stay (fun d v hd q => hx d v ?_ q) (fun d q => up d _ q fun _ z => by cases z) fun d xs q => up d _ q fun _ z => by cases z
        rcases hd with z | z
        · rw [z]; exact hb2
        · exact nP d _ z fun _ y => by cases y
end
/-- the module's code of a def whose table is tracked at P -/
structure LamB (mg : Str → Option Value) (base : Heap) (c P : Addr) : Prop where
  code : PySem.W.CodeHd base c P
  gne : mainGlobals ≠ P
  bm : base.BuiltinsAt mg P
/-- the table of a def with one lambda: empty, or it has the lambda's code -/
def LamT (H : Hp) (P : Addr) (qual : Str) (pos : Pos) : Prop := H P = some (.tbl #[]) ∨ ∃ c' oc vs t u, H P = some (.tbl #[rawInt pos.line, rawInt pos.col, .ref c']) ∧ H c' = some (.frz oc u) ∧ oc.data = .fields vs ∧ vs[1]? = some (.str qual t)
/-- all but the table stayed -/
def SameB (P : Addr) (H H' : Hp) : Prop := ∀ b o, b ≠ P → H b = some o → H' b = some o
theorem Same.b {P : Addr} {H H' : Hp} (s : Same H H') : SameB P H H' := fun b o _ h => s b o h
theorem LamT.keep {H H' : Hp} {P : Addr} {qual : Str} {pos : Pos} (h : LamT H P qual pos) (s : Same H H') : LamT H' P qual pos := by
  rcases h with h | ⟨c', oc, vs, t, u, h1, h2, h3, h4⟩
  · exact .inl (s _ _ h)
  · exact .inr ⟨c', oc, vs, t, u, s _ _ h1, s _ _ h2, h3, h4⟩
end L2
namespace L2
open PySem PySem.Spec PySem.Calls PyProof.Rows
/-- sorted(xs, key=lambda x: x[k]): key tells the item -/
def tSortK (K : PySem.W.Frag) (P : Addr) (qual : Str) (lpos : Pos) (k : Int) (te : TE) : TE := fun σ H Q => te σ H fun x H1 => ∃ (a : Addr) (as : List Addr) (key : Addr → Int), x = .ref a ∧ SqL K H1 a (as.map V.ref) ∧ as.length < 64 ∧ LamT H1 P qual lpos ∧
  (∀ q ∈ as, ∃ xs, H1 q = some (.tup xs) ∧ atI xs k = some (.int (key q))) ∧
  ∀ (p : Addr) (as' : List Addr) (H2 : Hp), as'.Perm as → (as'.Pairwise fun u v => key u ≤ key v) → SameB P H1 H2 → LamT H2 P qual lpos → H1 p = none → H2 p = some (.lst (as'.map V.ref)) → Q (.ref p) H2
end L2

/-! ### the head of a law one of whose defs makes a lambda: the table of its codes is tracked from the start -/
namespace L2
open PySem PySem.Spec PySem.Calls PyProof.Rows
/-- a def whose code is at c -/
structure FunC (K : PySem.W.Frag) (x qual : Str) (st : Stmt) (f : Addr) (fd : FuncData) (c : Addr) : Prop where
  ex : ∃ (oc : Value) (od : Option Addr) (kV doc pm : Value) (an : Option Addr) (ct : Value) (osl : Array (Option Value)),
    fd = PySem.W.fnOf x qual (defArgs st) (defBody st) (defScope st) .none kV doc pm an (.ref c) ct ∧ K.lookup f = some ⟨oc, od, .func fd, osl⟩ ∧ PySem.W.codeIn K (.ref c) qual = true
  kp : PySem.W.keepIn K (.ref f) = true
section
variable {P : Program} {w : World} {K : PySem.W.Frag} {mg : Str → Option Value} {base : Heap}
end
end L2

/-! ### objects lent to a callee, and taken back: cells -/
namespace L2
open PySem PySem.Spec PySem.Calls PyProof.Rows
/-- without what lies at cs -/
def dropA (cs : List Addr) (H : Hp) : Hp := fun b => if b ∈ cs then none else H b
/-- and what lies at cs held still -/
def trkA (cs : List (Addr × Obj)) (H : Hp) : Hp := fun b => match cs.lookup b with | some o => some (.frz o (.own 0)) | none => H b
theorem dropA_in {cs : List Addr} {H : Hp} {b : Addr} (h : b ∈ cs) : dropA cs H b = none := if_pos h
theorem dropA_out {cs : List Addr} {H : Hp} {b : Addr} (h : b ∉ cs) : dropA cs H b = H b := if_neg h
theorem trkA_in {cs : List (Addr × Obj)} {H : Hp} {b : Addr} {o : Obj} (h : cs.lookup b = some o) : trkA cs H b = some (.frz o (.own 0)) := by unfold trkA; rw [h]
theorem trkA_out {cs : List (Addr × Obj)} {H : Hp} {b : Addr} (h : cs.lookup b = none) : trkA cs H b = H b := by unfold trkA; rw [h]
theorem lk_mem {cs : List (Addr × Obj)} {b : Addr} : b ∈ cs.map (·.1) ↔ ∃ o, cs.lookup b = some o := by
  induction cs with
  | nil => simp
  | cons p r ih =>
    rw [List.map_cons, List.mem_cons, List.lookup_cons]
    by_cases e : b = p.1
    · rw [e]; simp
    · rw [beq_false_of_ne e]; simpa [e] using ih
theorem lk_none {cs : List (Addr × Obj)} {b : Addr} (h : b ∉ cs.map (·.1)) : cs.lookup b = none := by
  cases q : cs.lookup b with
  | none => rfl
  | some o => exact absurd (lk_mem.mpr ⟨o, q⟩) h
section
variable {P : Program} {w : World} {H H2 : Hp} {h h' : Heap} {fs : List Addr} {cs : List (Addr × Obj)}
theorem HOk.trk (ok : HOk P w H h) (hc : ∀ c o, cs.lookup c = some o → h.get? c = some o ∧ H c = none) : HOk P w (trkA cs H) h := fun b u e => by
  cases q : cs.lookup b with
  | some o =>
    rw [trkA_in q] at e
    cases e
    exact ⟨(hc b o q).1, o, (hc b o q).1⟩
  | none =>
    rw [trkA_out q] at e
    have out : ∀ c v, H c = some v → trkA cs H c = some v := fun c v z => by
      rw [trkA_out (lk_none fun m => by
        obtain ⟨o, ho⟩ := lk_mem.mp m
        rw [(hc c o ho).2] at z; cases z)]
      exact z
    exact (ok b u e).stay (fun _ _ _ z => z) (fun c z => out c _ z) fun c xs z => out c _ z
theorem HOk.drp (ok : HOk P w H h) (hc : ∀ c ∈ cs.map (·.1), ∃ o u, H c = some (.frz o u)) : HOk P w (dropA (cs.map (·.1)) H) h := fun b u e => by
  have nb : b ∉ cs.map (·.1) := fun m => by rw [dropA_in m] at e; cases e
  rw [dropA_out nb] at e
  have out : ∀ c v, H c = some v → (∀ o u, v ≠ .frz o u) → dropA (cs.map (·.1)) H c = some v := fun c v z n => by
    rw [dropA_out fun m => by
      obtain ⟨o, u, ho⟩ := hc c m
      rw [ho] at z; cases z; exact n _ _ rfl]
    exact z
  exact (ok b u e).stay (fun _ _ _ z => z) (fun c z => out c _ z fun _ _ y => by cases y) fun c xs z => out c _ z fun _ _ y => by cases y
/-- taken for a while and held still again -/
theorem Un.took (u : Un fs [] (dropA (cs.map (·.1)) H) H2 h h') (ok0 : HOk P w H h) (ok : HOk P w H2 h') (hc : ∀ c o, cs.lookup c = some o → H c = some (.frz o (.own 0)) ∧ c ∉ fs) : Un fs [] H (trkA cs H2) h h' ∧ HOk P w (trkA cs H2) h' := by
  have at0 : ∀ c o, cs.lookup c = some o → h.get? c = some o := fun c o q => (ok0 c _ (hc c o q).1).1
  have dn : ∀ c o, cs.lookup c = some o → dropA (cs.map (·.1)) H c = none := fun c o q => dropA_in (lk_mem.mpr ⟨o, q⟩)
  have dw : ∀ c, cs.lookup c = none → dropA (cs.map (·.1)) H c = H c := fun c q => dropA_out fun m => by
    obtain ⟨o, ho⟩ := lk_mem.mp m
    rw [q] at ho; cases ho
  refine ⟨⟨fun b o e n hb hx => ?_, fun b o e n hb hx => ?_, fun b o e n hx => ?_, fun b o e hx => u.there b o e hx, fun b xs e => ?_, fun b o v e => ?_, fun b ps e => ?_⟩, ok.trk fun c o q => ⟨u.keep c o (at0 c o q) (dn c o q) (hc c o q).2 (by simp), u.free c o (at0 c o q) (dn c o q) (by simp)⟩⟩
  · cases q : cs.lookup b with
    | some o' => rw [(hc b o' q).1] at n; cases n
    | none => exact u.keep b o e (by rw [dw b q]; exact n) hb hx
  · cases q : cs.lookup b with
    | some o' => rw [(hc b o' q).1] at n; cases n
    | none => exact u.slot b o e (by rw [dw b q]; exact n) hb hx
  · cases q : cs.lookup b with
    | some o' => rw [(hc b o' q).1] at n; cases n
    | none => rw [trkA_out q]; exact u.free b o e (by rw [dw b q]; exact n) hx
  · cases q : cs.lookup b with
    | some o' => rw [(hc b o' q).1] at e; cases e
    | none => rw [trkA_out q]; exact u.tups b xs (by rw [dw b q]; exact e)
  · cases q : cs.lookup b with
    | some o' =>
      rw [(hc b o' q).1] at e
      cases e
      exact trkA_in q
    | none => rw [trkA_out q]; exact u.frzs b o v (by rw [dw b q]; exact e)
  · cases q : cs.lookup b with
    | some o' => rw [(hc b o' q).1] at e; cases e
    | none =>
      obtain ⟨more, hm⟩ := u.tbls b ps (by rw [dw b q]; exact e)
      exact ⟨more, by rw [trkA_out q]; exact hm⟩
end
/-- a value that can be called: what a call of it does, now and later -/
structure Clo (P : Program) (w : World) (K : PySem.W.Frag) (mg : Str → Option Value) (base : Heap) (CX : CXT) (k : Nat) (H : Hp) (f : Addr) (sp : Sp) : Prop where
  fn : ∃ oc od fd sl u, H f = some (.frz ⟨oc, od, .func fd, sl⟩ u)
  run : ∀ H', Same H H' → ∀ (A : Around) (outer : List Env) (s : Shared) (us : List Value) (vs : List V) (Q : VK) (E : XK), Room k A → Env0 P w K mg base A outer s H' → Vals vs us → sp vs H' Q E →
    codeAny (model P w) A (.call (.ref f) ⟨us, []⟩) (CR CX outer P w H' s Q E) s
theorem Clo.keep {P : Program} {w : World} {K : PySem.W.Frag} {mg : Str → Option Value} {base : Heap} {CX : CXT} {k : Nat} {H H' : Hp} {f : Addr} {sp : Sp} (c : Clo P w K mg base CX k H f sp) (s : Same H H') : Clo P w K mg base CX k H' f sp :=
  ⟨let ⟨oc, od, fd, sl, u, e⟩ := c.fn; ⟨oc, od, fd, sl, u, s _ _ e⟩, fun H2 s2 => c.run H2 (s.trans s2)⟩
/-- f(e, ..), f a name of the def's own whose value can be called -/
def tClo (P : Program) (w : World) (K : PySem.W.Frag) (mg : Str → Option Value) (base : Heap) (CX : CXT) (k : Nat) (E : XK) (i : Nat) (t : TA) : TE := fun σ H Q => ∃ f, σ[i]? = some (some (.ref f)) ∧ (∃ oc od fd sl u, H f = some (.frz ⟨oc, od, .func fd, sl⟩ u)) ∧ t σ H fun vs H1 => ∃ sp, Clo P w K mg base CX k H1 f sp ∧ sp vs H1 Q E
theorem pe_clo {X : Cx} {CX : CXT} {k i : Nat} {E : XK} {x : Str} {e : Expr} {es : List Expr} {t : TA} {p pos : Pos} (hr : Room k X.A) (hx : Passes CX X E) (hN : X.N[i]? = some x) (hv : X.env.scope.names.lookup x = some .local) (ha : PA X (e :: es) t)
    (he : starEach (e :: es) X.env = (false, eval e X.env) :: starEach es X.env := by rfl) (hpl : (backTo pos (starEach es X.env)).any (·.1) = false := by rfl)
    (hd : (x == ("__debug__" : Str)) = false := by decide) (hcd : (x == ("__classdict__" : Str)) = false := by decide) : PE X (.Call (.Name x p) (e :: es) [] pos) (tClo X.prog X.w X.K X.mg X.base CX k E i t) := by
  intro pins s σ H Q I h
  obtain ⟨f, hf, ⟨oc0, od0, fd0, sl0, u0, ef0⟩, h⟩ := h
  refine wpAny_Call_Name_kw (wpAny_mono (pe_var (pos := p) hN (.inl hv) hd hcd pins s σ H (fun v H' => v = .ref f ∧ H' = H) I ⟨_, hf, rfl, rfl⟩) (fun u s1 ⟨v, H1, I1, rv, ev, eH⟩ => ?_) fun _ _ z => z)
  subst ev eH
  obtain rfl : u = Value.ref f := rv
  refine PySem.W.callWith_F ⟨oc0, od0, fd0, sl0, (I1.hok _ _ ef0).1⟩ (thn (ha pos pins s1 σ H1 _ I1 h) fun us s2 ⟨vs, H2, I2, r2, sp, c, q⟩ => ?_) he hpl
  obtain ⟨oc, od, fd, sl, uu, ef⟩ := c.fn
  refine ⟨⟨oc, od, fd, sl, (I2.hok _ _ ef).1⟩, ?_⟩
  show wpAny _ _ (call (.ref f) us) _ _ _
  refine wpAny_call (codeAny_mono (c.run H2 (Same.refl _) X.A X.stack s2 us vs Q E hr I2.env0 r2 q) fun r s' hq => ?_)
  cases r with
  | error e => exact hx pins σ H2 s2 e s' I2 hq
  | ok fl =>
    cases fl with
    | ret u => exact I2.after hq
    | next => exact False.elim hq
    | brk => exact False.elim hq
    | cont => exact False.elim hq
end L2

/-! ### defs within defs: functions of one parameter that see names of the def around them -/
namespace L2
open PySem PySem.Spec PySem.Calls PyProof.Rows
/-- a code object of that name -/
def CodeA (H : Hp) (c : Addr) (qual : Str) : Prop := ∃ oc vs t u, H c = some (.frz oc u) ∧ oc.data = .fields vs ∧ vs[1]? = some (.str qual t)
theorem CodeA.keep {H H' : Hp} {c : Addr} {qual : Str} (h : CodeA H c qual) (s : ∀ o u, H c = some (.frz o u) → H' c = some (.frz o u)) : CodeA H' c qual := let ⟨oc, vs, t, u, e, r⟩ := h; ⟨oc, vs, t, u, s _ _ e, r⟩
/-- a function made by a def within a def -/
def FnN (H : Hp) (f : Addr) (name qual : Str) (params : Arguments) (body : List Stmt) (scope : Scope) (cl : List (Str × Addr)) : Prop :=
  ∃ doc pm c' ctv, H f = some (.frz (PySem.W.fnMade name qual params body scope cl doc pm c' ctv) (.own 0)) ∧ CodeA H c' qual
/-- the statement def: the table of the codes P, what is in it -/
def sDef (P : Addr) (name qual : Str) (params : Arguments) (body : List Stmt) (scope : Scope) (cl : List (Str × Addr)) (pos : Pos) (i : Nat) : TS := fun D σ H => ∃ ps, H P = some (.tbl ps) ∧ TriplesOk ps.toList ∧
  ((codeAmong pos ps.toList = none ∧ ∀ f c' H', SameB P H H' → H f = none → H c' = none → H' P = some (.tbl (ps ++ #[rawInt pos.line, rawInt pos.col, .ref c'])) → CodeA H' c' qual → FnN H' f name qual params body scope cl → D.nx (σ.set i (some (.ref f))) H') ∨
   ∃ c', codeAmong pos ps.toList = some (.ref c') ∧ CodeA H c' qual ∧ ∀ f H', Same H H' → H f = none → FnN H' f name qual params body scope cl → D.nx (σ.set i (some (.ref f))) H')
section
variable {X : Cx}
theorem ps_def {name qual : Str} {params : Arguments} {body : List Stmt} {scope : Scope} {cl : List (Str × Addr)} {pos : Pos} {i : Nat} {c P : Addr} (hN : X.N.Nodup) (hi : X.N[i]? = some name) (hk : X.env.scope.names.lookup name = some .local) (B : LamB X.mg X.base c P)
    (hcode : X.env.code = .ref c) (hq : qualnameIn X.env name name = qual) (hcl : closureFor scope X.env = pure cl) (hd0 : params.defaults = []) (hk0 : params.kw_defaults = []) (ha : annTrees params none X.env = []) :
    PS X (.FunctionDef name params body [] none [] scope none name pos) (sDef P name qual params body scope cl pos i) := by
  intro pins s σ H D I h
  obtain ⟨ps, hP, hok, h⟩ := h
  have bmS : s.heap.BuiltinsAt X.mg P := by
    obtain ⟨bm, o, a1, a2, a3, a4, a5, a6⟩ := B.bm
    exact ⟨bm, o, a1, a2, a3, a4, I.bk _ _ a5, a6⟩
  have hg := I.mod.glob.keeps I.bk
  have hPs : s.heap.get? P = some (PySem.W.tabObj ps) := I.hok _ _ hP
  refine PySem.W.nestDef_K hd0 hk0 ha ?_
  rw [hq]
  -- the name is set
  have fin : ∀ (f : Addr) (H' : Hp) (s' : Shared), Inv X pins σ H' s' → D.nx (σ.set i (some (.ref f))) H' → wpAny (model X.prog X.w) X.A (storeName X.env name (.ref f)) (fun _ s'' => SP X pins D .next s'') X.xe s' := fun f H' s' J q =>
    store_ok2 J (v := .ref f) hN hi (.inl hk) rfl (fun s'' J' _ => ⟨_, H', J', q⟩) (.inr hk)
  -- the function's object is laid
  have lay : ∀ (h' : Heap) (tk : Nat) (H1 : Hp) (doc pm ctv : Value) (c' : Addr), Inv X pins σ H1 { s with heap := h', toks := tk } → CodeA H1 c' qual →
      ∃ H2, Inv X pins σ H2 { s with heap := h'.push (PySem.W.fnMade name qual params body scope cl doc pm c' ctv), toks := tk } ∧ Same H1 H2 ∧ H1 h'.objs.size = none ∧ FnN H2 h'.objs.size name qual params body scope cl := fun h' tk H1 doc pm ctv c' J hc => by
    have hn : H1 h'.objs.size = none := J.hok.fresh (Nat.le_refl _)
    have J2 := J.laid (a := h'.objs.size) (o := .frz (PySem.W.fnMade name qual params body scope cl doc pm c' ctv) (.own 0)) (h' := h'.push (PySem.W.fnMade name qual params body scope cl doc pm c' ctv)) (t' := tk) (fun _ _ q => Heap.get?_push_of_some _ q) (Nat.le_refl _) ⟨Heap.get?_push_size _ rfl, _, Heap.get?_push_size _ rfl⟩
    have sm := Same.upd (o := .frz (PySem.W.fnMade name qual params body scope cl doc pm c' ctv) (.own 0)) hn
    exact ⟨_, J2, sm, hn, doc, pm, c', ctv, upd_same, hc.keep fun o u e => sm _ _ e⟩
  rcases h with ⟨hnf, h⟩ | ⟨c', hf, hc', h⟩
  · refine PySem.W.makeFunction_K (mg := X.mg) hcl I.ok.glob hg hcode (B.code.keeps I.bk) hPs hok hnf B.gne bmS fun c' ctv doc h' tk hx hge hlt hrec htb => ?_
    obtain ⟨c2, oc, cvs, t, e2, hoc, hdv, hv⟩ := hrec
    cases e2
    have hcn : H c' = none := I.hok.fresh hge
    have J := I.lamNew (tk := tk) hP hx hge hoc htb
    have hcP : c' ≠ P := fun z => by rw [z, hP] at hcn; cases hcn
    have ca : CodeA (upd (upd H P (.tbl (ps ++ #[rawInt pos.line, rawInt pos.col, .ref c']))) c' (.frz oc (.own 0))) c' qual := ⟨oc, cvs, t, _, upd_same, hdv, hv⟩
    obtain ⟨H2, J2, sm, hn, fn⟩ := lay h' tk _ doc ((X.mg "__name__").getD .none) ctv c' J ca
    refine fin _ H2 _ J2 (h _ c' H2 (fun b o n e => sm _ _ ?_) ?_ hcn (sm _ _ ?_) (ca.keep fun o u e => sm _ _ e) fn)
    · rw [upd_ne (ne_of_none e hcn), upd_ne n]; exact e
    · by_cases z : h'.objs.size = c'
      · rw [z]; exact hcn
      · rw [upd_ne z] at hn
        by_cases z2 : h'.objs.size = P
        · rw [z2, upd_same] at hn; cases hn
        · rw [upd_ne z2] at hn; exact hn
    · rw [upd_ne (Ne.symm hcP), upd_same]
  · refine PySem.W.makeFunction_hit (mg := X.mg) hcl I.ok.glob hg hcode (B.code.keeps I.bk) hPs hok hf bmS fun ctv doc h' tk hk' hsz => ?_
    obtain ⟨H2, J2, sm, hn, fn⟩ := lay h' tk H doc ((X.mg "__name__").getD .none) ctv c' (I.kept (t' := tk) hk') hc'
    exact fin _ H2 _ J2 (h _ H2 sm hn fn)
end
end L2

/-! ### what a call of a function does that was made by a def within a def -/
namespace L2
open PySem PySem.Spec PySem.Calls PyProof.Rows
/-- the context of its body -/
def nsX (P : Program) (w : World) (K : PySem.W.Frag) (mg : Str → Option Value) (base : Heap) (N : List Str) (qual : Str) (scope : Scope) (cl : List (Str × Addr)) (f : Addr) (cd : Value) (A : Around) (outer : List Env) (s : Shared) (H : Hp) : Cx where
  prog := P
  w := w
  K := K
  mg := mg
  base := base
  A := A.deeper (PySem.W.envX qual scope s.heap.objs.size f cd cl)
  N := N
  s₀ := s
  H₀ := H
  env := PySem.W.envX qual scope s.heap.objs.size f cd cl
  outer := outer
  stack := PySem.W.envX qual scope s.heap.objs.size f cd cl :: outer
  ex := []
  fn := fun _ => false
  calm := true
  pn := []
  xe := fun _ _ => False
/-- one parameter, the names of the closure -/
structure NsS (x : Str) (cl : List (Str × Addr)) (scope : Scope) : Prop where
  kind : scope.kind = .function
  co : scope.isCoroutine = false
  gen : scope.isGenerator = false
  cell : ∀ z ∈ scope.names, z.2 ≠ .cell
  loc : scope.names.lookup x = some .local
  fre : ∀ y ∈ cl.map (·.1), scope.names.lookup y = some .free
  only : ∀ z, scope.names.lookup z = some .free → z ∈ cl.map (·.1)
/-- the cells: their objects, what they hold -/
inductive Cells (H : Hp) : List (Str × Addr) → List (Addr × Obj) → List V → Prop
  | nil : Cells H [] [] []
  | cons {y : Str} {c : Addr} {o : Obj} {v : V} {u : Value} {cl : List (Str × Addr)} {cs : List (Addr × Obj)} {ws : List V} : H c = some (.frz o (.own 0)) → o.data = .cell (some u) → RelV v u → Cells H cl cs ws → Cells H ((y, c) :: cl) ((c, o) :: cs) (v :: ws)
theorem Cells.keep {H H' : Hp} {cl : List (Str × Addr)} {cs : List (Addr × Obj)} {ws : List V} (h : Cells H cl cs ws) (s : Same H H') : Cells H' cl cs ws := by
  induction h with
  | nil => exact .nil
  | cons a b c _ ih => exact .cons (s _ _ a) b c ih
theorem Cells.len {H : Hp} {cl : List (Str × Addr)} {cs : List (Addr × Obj)} {ws : List V} (h : Cells H cl cs ws) : ws.length = cl.length := by
  induction h with
  | nil => rfl
  | cons _ _ _ _ ih => rw [List.length_cons, List.length_cons, ih]
theorem Cells.frz {H : Hp} {cl : List (Str × Addr)} {cs : List (Addr × Obj)} {ws : List V} (h : Cells H cl cs ws) : ∀ c o, cs.lookup c = some o → H c = some (.frz o (.own 0)) := by
  induction h with
  | nil => intro c o e; cases e
  | @cons y c o v u cl cs ws a b r _ ih =>
    intro d o' e
    rw [List.lookup_cons] at e
    by_cases z : d = c
    · subst z
      simp at e
      rw [← e]; exact a
    · rw [beq_false_of_ne z] at e
      exact ih d o' e
theorem Cells.lk {H : Hp} {cl : List (Str × Addr)} {cs : List (Addr × Obj)} {ws : List V} (h : Cells H cl cs ws) : ∀ y c, cl.lookup y = some c → c ∈ cs.map (·.1) := by
  induction h with
  | nil => intro c o e; cases e
  | @cons y c o v u cl cs ws a b r _ ih =>
    intro z d e
    rw [List.lookup_cons] at e
    by_cases q : z = y
    · subst q
      simp at e
      rw [← e]; exact List.mem_cons_self ..
    · rw [beq_false_of_ne q] at e
      exact List.mem_cons_of_mem _ (ih z d e)
/-- what a name of the closure holds -/
theorem Cells.at {P : Program} {w : World} {H : Hp} {h : Heap} {cl : List (Str × Addr)} {cs : List (Addr × Obj)} {ws : List V} (ok : HOk P w H h) (q : Cells H cl cs ws) (nd : (cl.map (·.1)).Nodup) : ∀ (i : Nat) y v, (cl.map (·.1))[i]? = some y → ws[i]? = some v → ∃ u c, RelV v u ∧ cl.lookup y = some c ∧ h.IsCell c (some u) := by
  induction q with
  | nil => intro i y v e; simp at e
  | @cons y c o v u cl cs ws a b r t ih =>
    intro i z v' e e2
    cases i with
    | zero =>
      simp at e e2
      subst e e2
      exact ⟨u, c, r, by simp, o, (ok _ _ a).1, b⟩
    | succ i =>
      rw [List.map_cons, List.nodup_cons] at nd
      have e' : (cl.map (·.1))[i]? = some z := by simpa using e
      have e2' : ws[i]? = some v' := by simpa using e2
      obtain ⟨u', c', h1, h2, h3⟩ := ih nd.2 i z v' e' e2'
      refine ⟨u', c', h1, ?_, h3⟩
      rw [List.lookup_cons, beq_false_of_ne (fun z' => nd.1 (by rw [← z']; exact List.mem_of_getElem? e'))]
      exact h2
theorem lk_some {cl : List (Str × Addr)} {y : Str} (h : y ∈ cl.map (·.1)) : ∃ c, cl.lookup y = some c := by
  induction cl with
  | nil => simp at h
  | cons p r ih =>
    rw [List.lookup_cons]
    by_cases e : y = p.1
    · rw [e]; exact ⟨p.2, by simp⟩
    · rw [beq_false_of_ne e]
      rw [List.map_cons, List.mem_cons] at h
      exact ih (h.resolve_left e)
section
variable {P : Program} {w : World} {K : PySem.W.Frag} {mg : Str → Option Value} {base : Heap}
theorem clo_of {k : Nat} {H : Hp} {f : Addr} {sp : Sp} {name qual x : Str} {params : Arguments} {body : List Stmt} {scope : Scope} {cl : List (Str × Addr)} {cs : List (Addr × Obj)} {ws : List V} (S : NsS x cl scope) (nd : (x :: cl.map (·.1)).Nodup)
    (inj : ∀ y z c, cl.lookup y = some c → cl.lookup z = some c → y = z) (F : FnN H f name qual params body scope cl) (C : Cells H cl cs ws)
    (hb : ∀ doc pm c' ctv u, bindArgs (PySem.W.fnX name qual params body scope cl .none .none doc pm none (.ref c') ctv) ⟨[u], []⟩ = pure [(x, u)]) (len : ∀ vs H Q E, sp vs H Q E → vs.length = 1)
    (hbody : ∀ (cd : Value) (A : Around) (outer : List Env) (s : Shared) (H' : Hp) (v : V) (Q : VK) (E : XK), Same H H' → Room k (A.deeper (PySem.W.envX qual scope s.heap.objs.size f cd cl)) → sp [v] H' Q E →
      ∃ t, PSs (nsX P w K mg base (x :: cl.map (·.1)) qual scope cl f cd A outer s (dropA (cs.map (·.1)) H')) body t ∧ t { nx := fun _ H2 => (∀ c ∈ cs.map (·.1), H2 c = none) → Q .non (trkA cs H2), rt := fun v H2 => (∀ c ∈ cs.map (·.1), H2 c = none) → Q v (trkA cs H2) } (some v :: ws.map some) (dropA (cs.map (·.1)) H')) :
    Clo P w K mg base CX0 (k + 1) H f sp := by
  obtain ⟨doc, pm, c', ctv, hf, ca⟩ := F
  refine ⟨⟨_, _, _, _, _, hf⟩, fun H' sm A outer s us vs Q E hr e0 r hsp => ?_⟩
  obtain ⟨v, rfl⟩ : ∃ v, vs = [v] := by
    match vs, len _ _ _ _ hsp with
    | [v], _ => exact ⟨v, rfl⟩
  obtain ⟨u, rfl, ru⟩ := vals1 r
  have C' := C.keep sm
  have hfrz := C'.frz
  have nfs : ∀ c o, cs.lookup c = some o → c ∉ frs outer := fun c o q z => by
    have := e0.frf c z
    rw [hfrz c o q] at this; cases this
  have lim : s.heap.NoLimit := e0.mod.nolimit.keeps fun b o e => (e0.bs b o e).1
  have okD : HOk P w (dropA (cs.map (·.1)) H') s.heap := e0.hok.drp fun c m => by
    obtain ⟨o, ho⟩ := lk_mem.mp m
    exact ⟨o, _, hfrz c o ho⟩
  have dn : ∀ b, H' b = none → dropA (cs.map (·.1)) H' b = none := fun b n => by
    unfold dropA
    split
    · rfl
    · exact n
  have hcd : s.heap.CodeRec (.ref c') qual := by
    obtain ⟨oc, vs, t, uu, e, h1, h2⟩ := ca
    exact ⟨c', oc, vs, t, rfl, (e0.hok _ _ (sm _ _ e)).1, h1, h2⟩
  obtain ⟨t, ht, hq⟩ := hbody (.ref c') A outer s H' v Q E sm (hr.deeper _) hsp
  refine codeAny_call_function hr.depth ((e0.hok _ _ (sm _ _ hf)).1) rfl S.co S.gen rfl hcd ?_
  rw [hb]
  refine wpAny_pure (wpAny_newFunctionEnv S.cell (fun z hz => ?_) (fun h₁ hns hsb => ?_) S.kind)
  · have e : z = (x, u) := by simpa using hz
    rw [e]; exact S.loc
  have hk₁ : ∀ b o, s.heap.get? b = some o → h₁.get? b = some o := fun b o e => hsb.extBut b o (Nat.ne_of_lt (Heap.lt_size e)) (Heap.get?_push_of_some _ e)
  refine ⟨lim.keeps hk₁, codeAny_func ?_⟩
  have noA : ∀ b : Addr, b ∉ (nsX P w K mg base (x :: cl.map (·.1)) qual scope cl f (.ref c') A outer s (dropA (cs.map (·.1)) H')).ex := fun b z => absurd (show b ∈ ([] : List Addr) from z) (by simp)
  have ndc := (List.nodup_cons.mp nd).2
  have J : Inv (nsX P w K mg base (x :: cl.map (·.1)) qual scope cl f (.ref c') A outer s (dropA (cs.map (·.1)) H')) [] (some v :: ws.map some) (dropA (cs.map (·.1)) H') { s with heap := h₁, toks := s.toks + 1 } := by
    refine ⟨⟨e0.mod, S.kind, rfl, rfl, Nat.le_refl _, inj, fun a ha => ?_, fun a c h _ => (by cases h), fun _ => hr.hd, Around.frames_deeper e0.frames, .inr ⟨rfl, rfl⟩, fun b z => absurd z (noA b), fun b o e => ⟨(e0.bs b o e).1, dn b (e0.bs b o e).2⟩, e0.bsz, fun b _ _ => noA b, fun b z => absurd z (noA b), e0.funs, fun b hb => dn b (e0.frf b hb)⟩,
      rfl, e0.bare, Un.kept hk₁, ⟨_, hns, fun i z v' h1 h2 h3 => ?_⟩, fun a c h => ?_, okD.fresh (Nat.le_refl _), fun a c h => ?_, fun p hp => absurd (show p ∈ ([] : List (Addr × Obj)) from hp) (by simp), okD.kept hk₁, ?_⟩
    · have ha : scope.names.lookup a = some .cell ∨ scope.names.lookup a = some .free := ha
      rcases ha with ha | ha
      · exact absurd rfl (S.cell _ (PySem.mem_of_lookup ha))
      · exact lk_some (S.only a ha)
    · cases i with
      | zero =>
        have h1' : some x = some z := h1
        have h2' : some (some v) = some (some v') := h2
        cases h1'
        cases h2'
        exact ⟨u, ru, .inl ⟨S.loc, by simp⟩⟩
      | succ i =>
        have h1' : (cl.map (·.1))[i]? = some z := by
          have h1 : (x :: cl.map (·.1))[i + 1]? = some z := h1
          simpa using h1
        have h2' : ws[i]? = some v' := by
          have h2 : (some v :: ws.map some)[i + 1]? = some (some v') := h2
          simpa using h2
        obtain ⟨u', c2, q1, q2, o, q3, q4⟩ := C'.at e0.hok ndc i z v' h1' h2'
        exact ⟨u', q1, .inr ⟨.inr (S.fre z (List.mem_of_getElem? h1')), c2, q2, o, hk₁ _ _ q3, q4⟩⟩
    · have h : cl.lookup a = some c := h
      have m := C'.lk a c h
      obtain ⟨o, ho⟩ := lk_mem.mp m
      have ho2 := (e0.hok _ _ (hfrz c o ho)).1
      have key : ∃ u', s.heap.IsCell c (some u') := by
        have am : a ∈ cl.map (·.1) := List.mem_map.mpr ⟨(a, c), PySem.mem_of_lookup h, rfl⟩
        obtain ⟨i, hi⟩ := List.getElem?_of_mem am
        obtain ⟨v', hv'⟩ : ∃ v', ws[i]? = some v' := ⟨_, List.getElem?_eq_getElem (by rw [C'.len]; have := (List.getElem?_eq_some_iff.mp hi).1; rwa [List.length_map] at this)⟩
        obtain ⟨u', c2, _, q2, q3⟩ := C'.at e0.hok ndc i a v' hi hv'
        rw [h] at q2
        cases q2
        exact ⟨u', q3⟩
      obtain ⟨u', o', h1, h2⟩ := key
      exact ⟨_, o', hk₁ _ _ h1, h2⟩
    · exact dropA_in (C'.lk a c h)
    · show (some v :: ws.map some).length = (x :: cl.map (·.1)).length
      rw [List.length_cons, List.length_cons, List.length_map, List.length_map, C'.len]
  refine wpAny_mono (ht [] _ _ _ _ J hq) (fun fl s' hs => ?_) fun e s' z => z.elim
  have fin : ∀ {σ' : St} {H2 : Hp} {v : V} {u : Value}, Inv (nsX P w K mg base (x :: cl.map (·.1)) qual scope cl f (.ref c') A outer s (dropA (cs.map (·.1)) H')) [] σ' H2 s' → RelV v u → ((∀ c ∈ cs.map (·.1), H2 c = none) → Q v (trkA cs H2)) → CE outer P w H' s Q u s' := fun {σ' H2 v u} J rv q => by
    obtain ⟨un, hok⟩ := Un.took (P := P) (w := w) (cs := cs) J.base e0.hok J.hok fun c o q => ⟨hfrz c o q, nfs c o q⟩
    refine ⟨v, trkA cs H2, J.os, J.bare, un, hok, rv, q fun c m => ?_⟩
    obtain ⟨o, ho⟩ := lk_mem.mp m
    exact J.base.free c o ((e0.hok _ _ (hfrz c o ho)).1) (dropA_in m) (by intro z; exact absurd (show c ∈ ([] : List Addr) from z) (by simp))
  cases fl with
  | ret u =>
    obtain ⟨v, σ', H', J, rv, q⟩ := hs
    exact fin J rv q
  | next =>
    obtain ⟨σ', H', J, q⟩ := hs
    exact fin (v := V.non) (u := Value.none) J rfl q
  | brk =>
    obtain ⟨_, _, _, q⟩ := hs
    exact False.elim q
  | cont =>
    obtain ⟨_, _, _, q⟩ := hs
    exact False.elim q
end
end L2

/-! ### a def that makes a function of its parameter and hands it back -/
namespace L2
open PySem PySem.Spec PySem.Calls PyProof.Rows
theorem Un.trkNew {fs : List Addr} {H H3 : Hp} {h h' : Heap} {cs : List (Addr × Obj)} (u : Un fs [] H H3 h h') (hn : ∀ c o, cs.lookup c = some o → h.objs.size ≤ c ∧ H3 c = none) : Un fs [] H (trkA cs H3) h h' := by
  have old : ∀ b v, H3 b = some v → trkA cs H3 b = some v := fun b v e => by
    cases q : cs.lookup b with
    | none => rw [trkA_out q]; exact e
    | some o => rw [(hn b o q).2] at e; cases e
  refine ⟨u.keep, u.slot, fun b o e n hx => ?_, u.there, fun b xs e => old _ _ (u.tups b xs e), fun b o v e => old _ _ (u.frzs b o v e), fun b ps e => let ⟨more, hm⟩ := u.tbls b ps e; ⟨more, old _ _ hm⟩⟩
  cases q : cs.lookup b with
  | none => rw [trkA_out q]; exact u.free b o e n hx
  | some o' => exact absurd (Heap.lt_size e) (Nat.not_lt.mpr (hn b o' q).1)
/-- the table of a def with one def in it -/
theorem LamT.code {H : Hp} {P c : Addr} {qual : Str} {pos : Pos} (h : H P = some (.tbl (#[] ++ #[rawInt pos.line, rawInt pos.col, .ref c]))) (k : CodeA H c qual) : LamT H P qual pos := by
  obtain ⟨oc, vs, t, u, e, r⟩ := k
  exact .inr ⟨c, oc, vs, t, u, by rw [h]; rfl, e, r⟩
theorem among1 {pos : Pos} {c : Addr} : codeAmong pos [rawInt pos.line, rawInt pos.col, .ref c] = some (.ref c) := codeAmong_snoc (l := []) trivial rfl
/-- what such a def does -/
def spMaker (P : Addr) (name qual y : Str) (params : Arguments) (body : List Stmt) (scope : Scope) (pos : Pos) : Sp := fun vs H Q _ => ∃ v, vs = [v] ∧ LamT H P qual pos ∧
  ∀ f cc o H', SameB P H H' → LamT H' P qual pos → H f = none → H cc = none → FnN H' f name qual params body scope [(y, cc)] → Cells H' [(y, cc)] [(cc, o)] [v] → Q (.ref f) H'
section
variable {P : Program} {w : World} {K : PySem.W.Frag} {mg : Str → Option Value} {base : Heap}
theorem fn_maker {f0 c T : Addr} {fd : FuncData} {x0 q0 name qual y : Str} {st : Stmt} {params : Arguments} {body : List Stmt} {scope : Scope} {pos npos rpos : Pos} {k : Nat} (F : FunC K x0 q0 st f0 fd c) (hbd : defBody st = [.FunctionDef name params body [] none [] scope none name pos, .Return (some (.Name name npos)) rpos])
    (S : FnScope [y, name] [y] (defScope st)) (hky : (defScope st).names.lookup y = some .cell) (hkn : (defScope st).names.lookup name = some .local) (B : LamB mg base c T)
    (hq : ∀ n : Nat, qualnameIn (envOfC q0 (defScope st) n f0 (.ref c)) name name = qual) (hcl : ∀ n : Nat, closureFor scope (envOfC q0 (defScope st) n f0 (.ref c)) = pure [(y, n + 1)]) (hlk : ∀ n : Nat, (cellsFrom (n + 1) (defScope st).names []).lookup y = some (n + 1))
    (hd0 : params.defaults = []) (hk0 : params.kw_defaults = []) (ha : ∀ n : Nat, annTrees params none (envOfC q0 (defScope st) n f0 (.ref c)) = []) (hdb : (name == ("__debug__" : Str)) = false := by decide) (hcdb : (name == ("__classdict__" : Str)) = false := by decide) :
    FnOk P w K mg base CX0 (k + 1) f0 fd [y] (spMaker T name qual y params body scope pos) := by
  obtain ⟨oc, od, kV, doc, pm, an, ct, osl, rfl, lk, hcd⟩ := F.ex
  refine ⟨fun vs H Q E h => (by obtain ⟨v, rfl, _⟩ := h; rfl), fun A outer s H args us vs Q E hr e0 hb r hsp => ?_⟩
  obtain ⟨v, rfl, lt, hQ⟩ := hsp
  have KX : K.In s.heap := e0.mod.kin.keeps fun b o e => (e0.bs b o e).1
  have lim : s.heap.NoLimit := e0.mod.nolimit.keeps fun b o e => (e0.bs b o e).1
  have hkind : ∀ z ∈ [y].zip us, (defScope st).names.lookup z.1 = some .local ∨ ((defScope st).names.lookup z.1 = some .cell ∧ ((cellsFrom (s.heap.objs.size + 1) (defScope st).names []).lookup z.1).isSome = true) := fun ⟨n, v⟩ hy => by
    rcases S.par n (List.of_mem_zip hy).1 with q | q
    · exact .inl q
    · exact .inr ⟨q, PySem.W.cellsFrom_some _ _ _ (.inl q)⟩
  refine codeAny_call_function hr.depth (KX _ _ lk) rfl S.co S.gen rfl (PySem.W.codeRec_of KX hcd) (hb _ _ _ _ ?_)
  refine wpAny_newFunctionEnv_cells S.kind hkind fun env he s1 x => ?_
  subst he
  refine ⟨lim.keeps x.toInCall.keep, codeAny_func ?_⟩
  have I : Inv (cxOf CX0 P w K mg base [y, name] q0 (defScope st) f0 (.ref c) A outer s H E) [] (start [y, name] [v]) H s1 := inv_start S hr.hd e0 rfl r x
  have hdef := ps_def (X := (cxOf CX0 P w K mg base [y, name] q0 (defScope st) f0 (.ref c) A outer s H E)) (name := name) (qual := qual) (params := params) (body := body) (scope := scope) (cl := [(y, s.heap.objs.size + 1)]) (pos := pos) (i := 1) (c := c) (P := T) S.nd rfl hkn B rfl (hq _) (hcl _) hd0 hk0 (ha _)
  rw [hbd]
  -- behind the def
  let R : St → Hp → Prop := fun σ' H' => ∃ f, σ' = [some v, some (.ref f)] ∧ SameB T H H' ∧ LamT H' T qual pos ∧ H f = none ∧ FnN H' f name qual params body scope [(y, s.heap.objs.size + 1)]
  have rd : sDef T name qual params body scope [(y, s.heap.objs.size + 1)] pos 1 { nx := R, rt := fun _ _ => False } (start [y, name] [v]) H := by
    rcases lt with h0 | ⟨c', oc', vs', t', u', h0, hc', hv1, hv2⟩
    · exact ⟨#[], h0, trivial, .inl ⟨rfl, fun f c' H' sb nf nc hP ca fn => ⟨f, rfl, sb, LamT.code hP ca, nf, fn⟩⟩⟩
    · refine ⟨_, h0, trivial, .inr ⟨c', among1, ⟨oc', vs', t', u', hc', hv1, hv2⟩, fun f H' sm nf fn => ⟨f, rfl, sm.b, .inr ⟨c', oc', vs', t', u', sm _ _ h0, sm _ _ hc', hv1, hv2⟩, nf, fn⟩⟩⟩
  refine wpAny_execs_cons (thn (hdef [] s1 _ H { nx := R, rt := fun _ _ => False } I rd) fun fl s2 q => ?_)
  cases fl with
  | ret v => obtain ⟨_, _, _, _, _, q⟩ := q; exact q.elim
  | brk => obtain ⟨_, _, _, q⟩ := q; exact q.elim
  | cont => obtain ⟨_, _, _, q⟩ := q; exact q.elim
  | next =>
    obtain ⟨σ', H', J, f, rfl, sb, lt', nf, fn⟩ := q
    refine wpAny_execs_cons (wpAny_Return_some (thn (pe_var (X := (cxOf CX0 P w K mg base [y, name] q0 (defScope st) f0 (.ref c) A outer s H E)) (i := 1) (pos := npos) rfl (.inl hkn) hdb hcdb [] s2 _ H' (fun v H'' => v = .ref f ∧ H'' = H') J ⟨_, rfl, rfl, rfl⟩) fun u s3 ⟨x, H3, J3, rx, e1, e2⟩ => ?_))
    subst e1 e2
    have cn : s.heap.objs.size + 1 ≥ s.heap.objs.size := Nat.le_succ _
    obtain ⟨m, hns, hlook⟩ := J3.loc
    obtain ⟨uv, rv, lk⟩ := hlook 0 y v rfl rfl (.inr (.inl hky))
    have ic : s3.heap.IsCell (s.heap.objs.size + 1) (some uv) := by
      rcases lk with ⟨k1, _⟩ | ⟨_, c2, e2, ic⟩
      · have k1 : (defScope st).names.lookup y = some .local := k1
        rw [hky] at k1; cases k1
      · have e2 : (cellsFrom (s.heap.objs.size + 1) (defScope st).names []).lookup y = some c2 := e2
        rw [hlk] at e2; cases e2; exact ic
    obtain ⟨o, ho, hd⟩ := ic
    have fc : H3 (s.heap.objs.size + 1) = none := J3.freeC y _ (hlk _)
    have one : ∀ c2 o2, [(s.heap.objs.size + 1, o)].lookup c2 = some o2 → c2 = s.heap.objs.size + 1 ∧ o2 = o := fun c2 o2 e => by
      rw [List.lookup_cons] at e
      by_cases z : c2 = s.heap.objs.size + 1
      · subst z; simp at e; exact ⟨rfl, e.symm⟩
      · rw [beq_false_of_ne z] at e; cases e
    have un := Un.trkNew (cs := [(s.heap.objs.size + 1, o)]) J3.base fun c2 o2 e => by
      obtain ⟨rfl, rfl⟩ := one c2 o2 e
      exact ⟨cn, fc⟩
    have hok := J3.hok.trk (cs := [(s.heap.objs.size + 1, o)]) fun c2 o2 e => by
      obtain ⟨rfl, rfl⟩ := one c2 o2 e
      exact ⟨ho, fc⟩
    have up : ∀ b w, H3 b = some w → trkA [(s.heap.objs.size + 1, o)] H3 b = some w := fun b w e => by
      rw [trkA_out (lk_none fun z => by
        rw [List.map_cons, List.map_nil, List.mem_singleton] at z
        rw [z, fc] at e; cases e)]
      exact e
    refine ⟨.ref f, _, J3.os, J3.bare, un, hok, rx, hQ f (s.heap.objs.size + 1) o _ (fun b w n e => up _ _ (sb b w n e)) ?_ nf (e0.hok.fresh cn) ?_ (.cons (trkA_in (by simp)) hd rv .nil)⟩
    · rcases lt' with h0 | ⟨c', oc', vs', t', u', h0, hc', hv⟩
      · exact .inl (up _ _ h0)
      · exact .inr ⟨c', oc', vs', t', u', up _ _ h0, up _ _ hc', hv⟩
    · obtain ⟨d1, d2, d3, d4, h1, h2⟩ := fn
      exact ⟨d1, d2, d3, d4, up _ _ h1, h2.keep fun o u e => up _ _ e⟩
end
end L2

/-! ### the head of a law some of whose defs make functions: the tables of their codes are tracked from the start -/
namespace L2
open PySem PySem.Spec PySem.Calls PyProof.Rows
theorem law_callTs {P : Program} {w : World} {K : PySem.W.Frag} {mg mb : Str → Option Value} {CX : CXT} {k : Nat} {fa a : Addr} {fd : FuncData} {x : Str} {sp : Sp} {s₁ : Shared} {vs : List Value} {ns : List Int} {Ts : List (Addr × Addr)}
    (KX : K.In s₁.heap) (hns : s₁.heap.Ns mainGlobals mg) (hb : s₁.heap.Ns builtinsNs mb) (hbb : ∀ x : Str, x ≠ "__name__" → mb x = bootBuiltins x) (hlim : s₁.heap.NoLimit) (hg : s₁.gens = #[])
    (ha : s₁.heap.get? a = some { cls := .type "list", data := .seq vs.toArray }) (hi : IntsAre vs ns) (hl : ns.length ≤ sizeLine) (hr : Room k callerA)
    (C : ∀ q ∈ Ts, PySem.W.CodeHd s₁.heap q.1 q.2) (hT : ∀ q ∈ Ts, s₁.heap.get? q.2 = some (PySem.W.tabObj #[])) (hnt : PySem.W.noTabs K = true) (hbm : ∀ q ∈ Ts, s₁.heap.BuiltinsAt mg q.2) (hgT : ∀ q ∈ Ts, mainGlobals ≠ q.2)
    (F : ∀ base : Heap, K.In base → base.Ns mainGlobals mg → (∀ q ∈ Ts, LamB mg base q.1 q.2) → FnOk P w K mg base CX k fa fd [x] sp) (hbind : ∀ (s : Shared) (u : Value), BindsTo s fd ⟨[u], []⟩ [(x, u)])
    (hsp : ∀ H : Hp, (∀ q ∈ Ts, H q.2 = some (.tbl #[])) → SqL K H a (ns.map V.int) → sp [.ref a] H (fun v _ => v = .bl true) fun _ _ _ => False)
    (hCX : ∀ H e s', CX [] H s₁ (fun _ _ _ => False) e s' → False) :
    codeAny (model P w) callerA (.call (.ref fa) ⟨[.ref a], []⟩) (fun r s' => r = .ok (.ret (.bool true)) ∧ OldK s₁.heap s'.heap ∧ s'.os = s₁.os ∧ AllBare s'.gens) s₁ := by
  have rv := vals_ints hi
  have lenV := hi.length
  have isT : ∀ b, b ∈ Ts.map (·.2) → ∃ q ∈ Ts, q.2 = b := fun b m => by
    obtain ⟨q, h1, h2⟩ := List.mem_map.mp m
    exact ⟨q, h1, h2⟩
  have tabT : ∀ b, b ∈ Ts.map (·.2) → s₁.heap.get? b = some (PySem.W.tabObj #[]) := fun b m => by
    obtain ⟨q, h1, rfl⟩ := isT b m
    exact hT q h1
  have haT : a ∉ Ts.map (·.2) := fun m => by rw [tabT a m] at ha; cases ha
  have hKT : ∀ b ∈ Ts.map (·.2), K.lookup b = none := fun b m => by
    cases q : K.lookup b with
    | none => rfl
    | some o =>
      have e := KX _ _ q
      rw [tabT b m] at e
      cases e
      have h2 := List.all_eq_true.mp hnt _ (PySem.W.mem_of_lookupK q)
      exact absurd (show false = true from h2) Bool.false_ne_true
  have core : ∀ H : Hp, (∀ b ∈ Ts.map (·.2), H b = some (.tbl #[])) → (∀ b, b ∉ Ts.map (·.2) → H b = none ∨ ∃ o xs, H b = some (.frz o (.lst xs))) → SqL K H a (ns.map V.int) → HOk P w H s₁.heap → (∀ b, H b ≠ none → b = a ∨ b ∈ Ts.map (·.2)) → (H a ≠ none → K.lookup a = none) →
      codeAny (model P w) callerA (.call (.ref fa) ⟨[.ref a], []⟩) (fun r s' => r = .ok (.ret (.bool true)) ∧ OldK s₁.heap s'.heap ∧ s'.os = s₁.os ∧ AllBare s'.gens) s₁ := by
    intro H hHT hO hS hok hA hK
    have base_of : ∀ {b : Addr} {o : Obj}, s₁.heap.get? b = some o → H b = none → (hidT s₁.heap H).get? b = some o := fun e n => hidT_get e n
    have noC : ∀ {b : Addr} {o : Obj}, s₁.heap.get? b = some o → o.cls ≠ .type "list" ∨ (∀ xs n, o.data ≠ .seq xs n) → o ≠ PySem.W.tabObj #[] → H b = none := fun {b o} e d nT => by
      cases q : H b with
      | none => rfl
      | some u =>
        rcases hA b (by rw [q]; simp) with e' | e'
        · subst e'
          rw [ha] at e; cases e
          rcases d with d | d
          · exact absurd rfl d
          · exact absurd rfl (d _ _)
        · rw [tabT b e'] at e
          exact absurd (Option.some.inj e).symm nT
    have noA : ∀ {b : Addr} {o : Obj} {es : Array DictEntry} {ep : Nat}, s₁.heap.get? b = some o → o.data = .dict es ep → H b = none := fun {b o es ep} e d =>
      noC e (.inr fun xs n z => by rw [d] at z; cases z) fun z => by rw [z] at d; cases d
    have nsK : ∀ {b : Addr} {m : Str → Option Value}, s₁.heap.Ns b m → (hidT s₁.heap H).Ns b m := fun {b m} ⟨o, es, ep, e, d, r⟩ => ⟨o, es, ep, base_of e (noA e d), d, r⟩
    have hKb : K.In (hidT s₁.heap H) := fun b o e => base_of (KX b o e) (by
      cases q : H b with
      | none => rfl
      | some u =>
        rcases hA b (by rw [q]; simp) with e' | e'
        · subst e'
          rw [hK (by rw [q]; simp)] at e; cases e
        · rw [hKT b e'] at e; cases e)
    have hM : Mod K mg (hidT s₁.heap H) := ⟨hKb, nsK hns, ⟨mb, nsK hb, hbb⟩, let ⟨mc, h1, h2⟩ := hlim; ⟨mc, nsK h1, h2⟩⟩
    have hL : ∀ q ∈ Ts, LamB mg (hidT s₁.heap H) q.1 q.2 := fun q hq => by
      refine ⟨?_, hgT q hq, ?_⟩
      · obtain ⟨o, vs', file, tf, flags, tg, inF, text, tt, e1, e2, e3, e4, r1, r2, r3, r4, r5, ne⟩ := C q hq
        exact ⟨o, vs', file, tf, flags, tg, inF, text, tt, base_of e1 (noC e1 (.inl (by rw [e2]; decide)) fun z => by rw [z] at e2; cases e2), e2, e3, e4, r1, r2, r3, r4, r5, ne⟩
      · obtain ⟨bm, o, a1, a2, a3, a4, a5, a6, a7⟩ := hbm q hq
        exact ⟨bm, o, a1, a2, a3, a4, base_of a5 (noC a5 (.inl (by rw [a6]; decide)) fun z => by rw [z] at a6; cases a6), a6, a7⟩
    have e0 : Env0 P w K mg (hidT s₁.heap H) callerA [] s₁ H := ⟨rfl, hM, fun b o e => of_hidT e, Nat.le_of_eq (hidT_size _ _), trivial, fun b hb => absurd (show b ∈ ([] : List Addr) from hb) (by simp), hok, .of_eq hg⟩
    refine codeAny_mono ((F _ hKb (nsK hns) hL).run callerA [] s₁ H ⟨[.ref a], []⟩ [.ref a] [.ref a] _ _ hr e0 (hbind s₁ (.ref a)) (.cons rfl .nil) (hsp H (fun q hq => hHT _ (List.mem_map_of_mem hq)) hS)) fun r s' h => ?_
    cases r with
    | error e => exact (hCX H e s' h).elim
    | ok fl =>
      cases fl with
      | next => exact False.elim h
      | brk => exact False.elim h
      | cont => exact False.elim h
      | ret u =>
        obtain ⟨v, H', os, bare, un, hok', r', q⟩ := h
        have q' : v = .bl true := q
        subst q'
        obtain rfl : u = Value.bool true := r'
        have keep : ∀ b o, b ∉ Ts.map (·.2) → s₁.heap.get? b = some o → s'.heap.get? b = some o := fun b o nb e => by
          cases q : H b with
          | none => exact un.keep b o e q (by intro z; exact absurd (show b ∈ ([] : List Addr) from z) (by simp)) (by simp)
          | some u =>
            rcases hO b nb with z | ⟨ob, xs, z⟩
            · rw [q] at z; cases z
            · have z2 := un.frzs b ob _ z
              obtain ⟨e1, _⟩ := hok b _ z
              obtain ⟨e2, _⟩ := hok' b _ z2
              rw [e] at e1; cases e1
              exact e2
        refine ⟨rfl, ⟨fun b o e => ?_, fun b o e => ?_⟩, os, bare⟩
        · by_cases nb : b ∈ Ts.map (·.2)
          · obtain ⟨more, hm⟩ := un.tbls b #[] (hHT b nb)
            have hTm : s'.heap.get? b = some (PySem.W.tabObj (#[] ++ more)) := hok' _ _ hm
            obtain ⟨q, hq, rfl⟩ := isT b nb
            rw [hT q hq] at e; cases e
            exact .inr (.inl ⟨((C q hq).tab (hT q hq)).isCodeTable, rfl, #[], more, rfl, hTm⟩)
          · exact .inl (keep b o nb e)
        · by_cases nb : b ∈ Ts.map (·.2)
          · obtain ⟨more, hm⟩ := un.tbls b #[] (hHT b nb)
            exact ⟨_, (show s'.heap.get? b = some (PySem.W.tabObj (#[] ++ more)) from hok' _ _ hm)⟩
          · exact ⟨o, keep b o nb e⟩
  cases hk : K.lookup a with
  | some o =>
    have e := KX a o hk
    rw [ha] at e
    cases e
    refine core (fun b => if b ∈ Ts.map (·.2) then some (.tbl #[]) else none) (fun b m => if_pos m) (fun b nb => .inl (if_neg nb)) (.inr ⟨_, vs.toArray, _, hk, rfl, rfl, rfl, by rw [List.size_toArray, lenV]; exact hl, by simpa using rv⟩) (fun b u z => ?_) (fun b z => ?_) fun z => absurd (if_neg haT) z
    · by_cases nb : b ∈ Ts.map (·.2)
      · have z' := (if_pos nb).symm.trans z
        cases z'
        exact tabT b nb
      · have z' := (if_neg nb).symm.trans z
        cases z'
    · by_cases nb : b ∈ Ts.map (·.2)
      · exact .inr nb
      · exact absurd (if_neg nb) z
  | none =>
    refine core (fun b => if b ∈ Ts.map (·.2) then some (.tbl #[]) else if b = a then some (.frz { cls := .type "list", data := .seq vs.toArray } (.lst (ns.map V.int))) else none) (fun b m => if_pos m) (fun b nb => ?_) (.inl (.inr ⟨{ cls := .type "list", data := .seq vs.toArray }, (if_neg haT).trans (if_pos rfl)⟩)) (fun b u z => ?_) (fun b z => ?_) fun _ => hk
    · by_cases hb : b = a
      · exact .inr ⟨_, _, (if_neg nb).trans (if_pos hb)⟩
      · exact .inl ((if_neg nb).trans (if_neg hb))
    · by_cases nb : b ∈ Ts.map (·.2)
      · have z' := (if_pos nb).symm.trans z
        cases z'
        exact tabT b nb
      · have z0 := (if_neg nb).symm.trans z
        by_cases hb : b = a
        · have z' := (if_pos hb).symm.trans z0
          cases z'
          subst hb
          exact ⟨ha, by rw [List.length_map]; exact hl, vs, _, rv, ha⟩
        · have z' := (if_neg hb).symm.trans z0
          cases z'
    · by_cases nb : b ∈ Ts.map (·.2)
      · exact .inr nb
      · by_cases hb : b = a
        · exact .inl hb
        · exact absurd ((if_neg nb).trans (if_neg hb)) z
/-- two makers, by their names x1, x2 -/
theorem walk_ofT2 {l : PySem.W.OpenLaw} {n k : Nat} {q : Program} {loose : List Str} {XP : (Str → Option Value) → Heap → Prop} {YP : World → Heap → Prop} {d d1 d2 : DefRec} {K : Params → PySem.W.Frag} {CX : World → CXT} {sp : World → Addr → Addr → Sp} {x x1 x2 : Str}
    (hn : l.most = some n) (hn2 : n ≤ sizeLine) (hdf : d.params.defaults = []) (hr : Room k callerA) (hrec1 : (recsOf q).find? (fun e => e.name == x1) = some d1) (hrec2 : (recsOf q).find? (fun e => e.name == x2) = some d2)
    (hY : ∀ (w : World) (h : Heap), YP w h → (K w.params).In h)
    (F : ∀ (w : World) (mg : Str → Option Value) (fa : Addr) (h : Heap), (K w.params).In h → h.Ns mainGlobals mg → mg d.name = some (.ref fa) →
      ∃ (fd : FuncData) (c1 T1 c2 T2 : Addr), PySem.W.tabIn (K w.params) x1 = some (c1, T1) ∧ PySem.W.tabIn (K w.params) x2 = some (c2, T2) ∧ PySem.W.noTabs (K w.params) = true ∧ (∀ (s : Shared) (u : Value), BindsTo s fd ⟨[u], []⟩ [(x, u)]) ∧
        ∀ base : Heap, (K w.params).In base → base.Ns mainGlobals mg → LamB mg base c1 T1 → LamB mg base c2 T2 → FnOk l.prog w (K w.params) mg base (CX w) k fa fd [x] (sp w T1 T2))
    (hsp : ∀ (w : World) (T1 T2 : Addr) (H : Hp) (a : Addr) (ns : List Int), ns.length ≤ n → H T1 = some (.tbl #[]) → H T2 = some (.tbl #[]) → SqL (K w.params) H a (ns.map V.int) → sp w T1 T2 [.ref a] H (fun v _ => v = .bl true) fun _ _ _ => False)
    (hCX : ∀ (w : World) (H : Hp) (s : Shared) (e : Value) (s' : Shared), CX w [] H s (fun _ _ _ => False) e s' → False) :
    PySem.W.WalkO q loose XP YP l.row.toRowW d [] (fun f vs => PySem.call f vs) := by
  refine Att.attach_call hn hdf fun w s₀ s₁ mg mb fa o pm cd doc a vs ns G Y ho hd hcd hmg hobj hints hlen hg => ?_
  have KX := hY w _ Y
  obtain ⟨fd, c1, T1, c2, T2, ht1, ht2, hnt, hb, hF⟩ := F w mg fa _ KX G.T.g hmg
  obtain ⟨C1, hT1⟩ := PySem.W.tab_of G.T KX hrec1 ht1
  obtain ⟨C2, hT2⟩ := PySem.W.tab_of G.T KX hrec2 ht2
  have hgT : ∀ T, s₁.heap.get? T = some (PySem.W.tabObj #[]) → mainGlobals ≠ T := fun T hT z => by
    obtain ⟨o, es, ep, e, hd, _⟩ := G.T.g
    rw [z, hT] at e; cases e; cases hd
  have hbm : ∀ T, s₁.heap.get? T = some (PySem.W.tabObj #[]) → s₁.heap.BuiltinsAt mg T := fun T hT => by
    obtain ⟨bm, ob, b1, b2, b3, b4, b5, b6⟩ := G.T.bmain
    refine ⟨bm, ob, b1, b2, fun z => ?_, fun z => ?_, b3, b4, b5, b6⟩
    · obtain ⟨o, es, ep, e, hd, _⟩ := G.T.g
      rw [z, e] at b3; cases b3; rw [hd] at b6; cases b6
    · rw [z, hT] at b3; cases b3; cases b4
  have two : ∀ {p : Addr × Addr → Prop}, p (c1, T1) → p (c2, T2) → ∀ q ∈ [(c1, T1), (c2, T2)], p q := fun h1 h2 q hq => by
    rcases List.mem_cons.mp hq with rfl | hq
    · exact h1
    · rw [List.mem_singleton.mp hq]; exact h2
  exact law_callTs (Ts := [(c1, T1), (c2, T2)]) KX G.T.g G.T.b G.T.builtins G.T.nolimit hg hobj hints (Nat.le_trans hlen hn2) hr (two C1 C2) (two hT1 hT2) hnt (two (hbm _ hT1) (hbm _ hT2)) (two (hgT _ hT1) (hgT _ hT2))
    (fun base h1 h2 h3 => hF base h1 h2 (h3 _ (List.mem_cons_self ..)) (h3 _ (List.mem_cons_of_mem _ (List.mem_cons_self ..)))) hb (fun H hO hS => hsp w T1 T2 H a ns hlen (hO _ (List.mem_cons_self ..)) (hO _ (List.mem_cons_of_mem _ (List.mem_cons_self ..))) hS) fun H e s' => hCX w H s₁ e s'
end L2

/-! the rows that a spread lays, as mathematics; nodes, graphs and rows in the heap -/
namespace BF
open PySem PySem.Spec PyProof.Rows L2
abbrev Rw := V × Nat × Option Nat × V
inductive Res where
  | found (rows : List Rw)
  | none (rows : List Rw)
  | many
abbrev Nd := Key ⊕ NKey
structure Prm where
  key : V → Nd
  E : Nd → List (V × V)
  goal : Nd → Bool
  deep : Nat
  most : Nat
def inner (B : Prm) (p d : Nat) : List Rw → List (V × V) → List Rw ⊕ Res
  | rows, [] => .inl rows
  | rows, x :: es => if (rows.any fun r => decide (B.key r.1 = B.key x.2)) = true then inner B p d rows es else if B.most ≤ rows.length then .inr .many else
    if B.goal (B.key x.2) = true then .inr (.found (rows ++ [(x.2, d + 1, some p, x.1)])) else inner B p d (rows ++ [(x.2, d + 1, some p, x.1)]) es
def outer (B : Prm) : Nat → List Rw → Nat → Res
  | 0, rows, _ => .none rows
  | n + 1, rows, p => match rows[p]? with
    | none => .none rows
    | some r => if r.2.1 < B.deep then (match inner B p r.2.1 rows (B.E (B.key r.1)) with | .inl rows' => outer B n rows' (p + 1) | .inr x => x) else .none rows
def bfs (B : Prm) (v : V) : Res := if B.goal (B.key v) = true then .found [(v, 0, none, .non)] else outer B (B.most + 1) [(v, 0, none, .non)] 0
/-- what holds of all rows so far -/
structure RI (B : Prm) (us : List V) (rows : List Rw) : Prop where
  l1 : 1 ≤ rows.length
  lm : rows.length ≤ B.most
  us : ∀ r ∈ rows, r.1 ∈ us
  dp : ∀ r ∈ rows, r.2.1 ≤ B.deep
  sf : ∀ r ∈ rows, Sf r.2.2.2
theorem RI.snoc {B : Prm} {us : List V} {rows : List Rw} {r : Rw} (h : RI B us rows) (l : rows.length < B.most) (u : r.1 ∈ us) (d : r.2.1 ≤ B.deep) (s : Sf r.2.2.2) : RI B us (rows ++ [r]) := by
  have m : ∀ {p : Rw → Prop}, (∀ r ∈ rows, p r) → p r → ∀ q ∈ rows ++ [r], p q := fun h1 h2 q hq => by
    rcases List.mem_append.mp hq with hq | hq
    · exact h1 q hq
    · rw [List.mem_singleton.mp hq]; exact h2
  exact ⟨by rw [List.length_append]; have := h.l1; omega, by rw [List.length_append]; show rows.length + 1 ≤ _; omega, m h.us u, m h.dp d, m h.sf s⟩
/-- a node -/
def NdV (kd : Bool) (H : Hp) (v : V) (n : Nd) : Prop := if kd = true then ∃ k b, n = .inr k ∧ v = .ref b ∧ KeyAt H k b else ∃ k, n = .inl k ∧ v = kV k
theorem NdV.keep {kd : Bool} {H H' : Hp} {v : V} {n : Nd} (h : NdV kd H v n) (t : ∀ b ys, H b = some (.tup ys) → H' b = some (.tup ys)) : NdV kd H' v n := by
  cases kd
  · exact h
  · obtain ⟨k, b, e1, e2, q⟩ := h
    exact ⟨k, b, e1, e2, q.keep t⟩
theorem sf_kV (k : Key) : Sf (kV k) := by
  cases k with
  | inl i => exact .inl rfl
  | inr s => exact .inl rfl
theorem NdV.sf {kd : Bool} {H : Hp} {v : V} {n : Nd} (h : NdV kd H v n) : Sf v := by
  cases kd
  · obtain ⟨k, _, rfl⟩ := h
    exact sf_kV k
  · obtain ⟨k, b, _, rfl, _⟩ := h
    exact .inr ⟨b, rfl⟩
theorem eq_kV (a b : Key) : flatV (kV a) = true ∧ flatV (kV b) = true ∧ eqV (kV a) (kV b) = decide (a = b) := by
  cases a with
  | inl i => cases b with
    | inl j =>
      refine ⟨rfl, rfl, ?_⟩
      show decide (i = j) = _
      by_cases h : i = j
      · rw [decide_eq_true h, decide_eq_true (by rw [h])]
      · rw [decide_eq_false h, decide_eq_false (fun z => h (Sum.inl.inj z))]
    | inr t => exact ⟨rfl, rfl, (decide_eq_false (fun z => by cases z)).symm⟩
  | inr s => cases b with
    | inl j => exact ⟨rfl, rfl, (decide_eq_false (fun z => by cases z)).symm⟩
    | inr t =>
      refine ⟨rfl, rfl, ?_⟩
      show decide (s = t) = _
      by_cases h : s = t
      · rw [decide_eq_true h, decide_eq_true (by rw [h])]
      · rw [decide_eq_false h, decide_eq_false (fun z => h (Sum.inr.inj z))]
theorem deq_kV {K : PySem.W.Frag} {H : Hp} {n : Nat} (a b : Key) : DEq K H n (kV a) (kV b) (decide (a = b)) := by
  obtain ⟨h1, h2, h3⟩ := eq_kV a b
  rw [← h3]
  exact .flat h1 h2
theorem all_keys : ∀ (xs ys : List Key), ((List.range (min xs.length ys.length)).all (fun j => decide (xs[j]? = ys[j]?)) && xs.length == ys.length) = decide (xs = ys) := by
  intro xs ys
  by_cases h : xs = ys
  · subst h
    simp
  · rw [decide_eq_false h, Bool.and_eq_false_iff]
    by_cases hl : xs.length = ys.length
    · refine .inl (Bool.eq_false_iff.mpr fun z => h (List.ext_getElem? fun j => ?_))
      by_cases hj : j < xs.length
      · have := List.all_eq_true.mp z j (List.mem_range.mpr (by omega))
        exact of_decide_eq_true this
      · rw [List.getElem?_eq_none (by omega), List.getElem?_eq_none (by omega)]
    · exact .inr (beq_eq_false_iff_ne.mpr hl)
theorem deq_keys {K : PySem.W.Frag} {H : Hp} {n : Nat} {a b : Addr} {xs ys : List Key} (h1 : H a = some (.tup (xs.map kV))) (h2 : H b = some (.tup (ys.map kV))) : DEq K H (n + 1) (.ref a) (.ref b) (decide (xs = ys)) := by
  by_cases e : a = b
  · subst e
    rw [h1] at h2
    have e2 : xs.map kV = ys.map kV := by injection h2 with h2; injection h2
    have inj : ∀ a b : Key, kV a = kV b → a = b := fun a b z => by
      have := (eq_kV a b).2.2
      rw [z] at this
      have r := (eq_kV b b).2.2
      rw [decide_eq_true rfl] at r
      rw [r] at this
      exact of_decide_eq_true this.symm
    have e3 : xs = ys := List.map_inj_right (fun a b => inj a b) |>.mp e2
    rw [decide_eq_true e3]
    exact .same
  · have q := DEq.tup (K := K) (n := n) (e := fun j => decide (xs[j]? = ys[j]?)) e (SqT.of h1) (SqT.of h2) fun j x y hx hy => by
      rw [List.getElem?_map] at hx hy
      cases e1 : xs[j]? with
      | none => rw [e1] at hx; cases hx
      | some k =>
        cases e2 : ys[j]? with
        | none => rw [e2] at hy; cases hy
        | some k' =>
          rw [e1] at hx; rw [e2] at hy
          cases hx; cases hy
          have : decide (some k = some k') = decide (k = k') := by
            by_cases z : k = k'
            · rw [decide_eq_true z, decide_eq_true (by rw [z])]
            · rw [decide_eq_false z, decide_eq_false (fun y => z (Option.some.inj y))]
          rw [this]
          exact deq_kV k k'
    rw [List.length_map, List.length_map, all_keys] at q
    exact q
theorem deq_key {K : PySem.W.Frag} {H : Hp} {n : Nat} {a b : Addr} {k k' : NKey} (h1 : KeyAt H k a) (h2 : KeyAt H k' b) : DEq K H (n + 2) (.ref a) (.ref b) (decide (k = k')) := by
  obtain ⟨c, h1, g1⟩ := h1
  obtain ⟨c', h2, g2⟩ := h2
  have d0 := deq_kV (K := K) (H := H) (n := n + 1) k.1 k'.1
  have d1 := deq_keys (K := K) (n := n) g1 g2
  by_cases e : a = b
  · subst e
    rw [h1] at h2
    have h3 : [kV k.1, V.ref c] = [kV k'.1, V.ref c'] := by injection h2 with h2; injection h2
    injection h3 with h4 h5
    injection h5 with h6 _
    injection h6 with h7
    subst h7
    rw [g1] at g2
    have inj : ∀ a b : Key, kV a = kV b → a = b := fun a b z => by
      have := (eq_kV a b).2.2
      rw [z] at this
      have r := (eq_kV b b).2.2
      rw [decide_eq_true rfl] at r
      rw [r] at this
      exact of_decide_eq_true this.symm
    have e2 : k.2.map kV = k'.2.map kV := by injection g2 with g2; injection g2
    have e3 : k.2 = k'.2 := List.map_inj_right (fun a b => inj a b) |>.mp e2
    rw [decide_eq_true (Prod.ext (inj _ _ h4) e3)]
    exact .same
  · have q := DEq.tup (K := K) (n := n + 1) (e := fun j => if j = 0 then decide (k.1 = k'.1) else decide (k.2 = k'.2)) e (SqT.of h1) (SqT.of h2) fun j x y hx hy => by
      match j, hx, hy with
      | 0, hx, hy => cases hx; cases hy; exact d0
      | 1, hx, hy => cases hx; cases hy; exact d1
      | j + 2, hx, _ => simp at hx
    have e2 : ((List.range (min [kV k.1, V.ref c].length [kV k'.1, V.ref c'].length)).all (fun j => if j = 0 then decide (k.1 = k'.1) else decide (k.2 = k'.2)) && [kV k.1, V.ref c].length == [kV k'.1, V.ref c'].length) = decide (k = k') := by
      show ((decide (k.1 = k'.1) && (decide (k.2 = k'.2) && true)) && true) = _
      by_cases z1 : k.1 = k'.1
      · by_cases z2 : k.2 = k'.2
        · rw [decide_eq_true z1, decide_eq_true z2, decide_eq_true (Prod.ext z1 z2)]; rfl
        · rw [decide_eq_true z1, decide_eq_false z2, decide_eq_false (fun z => z2 (congrArg Prod.snd z) : ¬ k = k')]; rfl
      · rw [decide_eq_false z1, decide_eq_false (fun z => z1 (congrArg Prod.fst z) : ¬ k = k')]; rfl
    rw [e2] at q
    exact q
theorem NdV.deq {K : PySem.W.Frag} {kd : Bool} {H : Hp} {v u : V} {n m : Nd} (h1 : NdV kd H v n) (h2 : NdV kd H u m) : DEq K H 40 v u (decide (n = m)) := by
  cases kd
  · obtain ⟨k, rfl, rfl⟩ := h1
    obtain ⟨k', rfl, rfl⟩ := h2
    have : decide ((Sum.inl k : Nd) = Sum.inl k') = decide (k = k') := by
      by_cases z : k = k'
      · rw [decide_eq_true z, decide_eq_true (by rw [z])]
      · rw [decide_eq_false z, decide_eq_false (fun y => z (Sum.inl.inj y))]
    rw [this]
    exact deq_kV k k'
  · obtain ⟨k, b, rfl, rfl, g⟩ := h1
    obtain ⟨k', b', rfl, rfl, g'⟩ := h2
    have : decide ((Sum.inr k : Nd) = Sum.inr k') = decide (k = k') := by
      by_cases z : k = k'
      · rw [decide_eq_true z, decide_eq_true (by rw [z])]
      · rw [decide_eq_false z, decide_eq_false (fun y => z (Sum.inr.inj y))]
    rw [this]
    exact deq_key g g'
/-- a dict whose keys are nodes -/
def DX (kd : Bool) (P : Program) (w : World) (H : Hp) (a : Addr) (kvs : List (Nd × V)) : Prop :=
  if kd = true then ∃ xs : List (NKey × V), kvs = xs.map (fun x => (Sum.inr x.1, x.2)) ∧ ND P w H a xs else ∃ xs : List (Key × V), kvs = xs.map (fun x => (Sum.inl x.1, x.2)) ∧ H a = some (.dK xs)
theorem valV_map {κ κ' : Type} [DecidableEq κ] [DecidableEq κ'] (f : κ → κ') (inj : ∀ a b, f a = f b → a = b) (k : κ) : ∀ xs : List (κ × V), valV (xs.map fun x => (f x.1, x.2)) (f k) = valV xs k
  | [] => rfl
  | x :: r => by
    rw [List.map_cons]
    by_cases e : x.1 = k
    · rw [valV_pos (show (f x.1, x.2).1 = f k by rw [e]), valV_pos e]
    · rw [valV_neg (fun z => e (inj _ _ z)), valV_neg e, valV_map f inj k r]
theorem putK_map {κ κ' : Type} [DecidableEq κ] [DecidableEq κ'] (f : κ → κ') (inj : ∀ a b, f a = f b → a = b) (k : κ) (v : V) (xs : List (κ × V)) : putK (xs.map fun x => (f x.1, x.2)) (f k) v = (putK xs k v).map fun x => (f x.1, x.2) := by
  have any : ((xs.map fun x => (f x.1, x.2)).any fun kv => decide (kv.1 = f k)) = xs.any fun kv => decide (kv.1 = k) := by
    rw [List.any_map]
    congr 1
    funext x
    show decide (f x.1 = f k) = decide (x.1 = k)
    by_cases e : x.1 = k
    · rw [decide_eq_true e, decide_eq_true (by rw [e])]
    · rw [decide_eq_false e, decide_eq_false fun z => e (inj _ _ z)]
  unfold putK
  rw [any]
  split
  · rw [List.map_map, List.map_map]
    congr 1
    funext x
    show (if f x.1 = f k then (f x.1, v) else (f x.1, x.2)) = _
    by_cases e : x.1 = k
    · rw [if_pos (by rw [e])]
      show _ = (fun x : κ × V => (f x.1, x.2)) (if x.1 = k then (x.1, v) else x)
      rw [if_pos e]
    · rw [if_neg fun z => e (inj _ _ z)]
      show _ = (fun x : κ × V => (f x.1, x.2)) (if x.1 = k then (x.1, v) else x)
      rw [if_neg e]
  · rw [List.map_append]
    rfl
theorem DX.get {kd : Bool} {P : Program} {w : World} {H : Hp} {a : Addr} {kvs : List (Nd × V)} {v : V} {n : Nd} (h : DX kd P w H a kvs) (k : NdV kd H v n) : DGetX P w H a v (valV kvs n) := by
  cases kd
  · obtain ⟨xs, rfl, ha⟩ := h
    obtain ⟨k, rfl, rfl⟩ := k
    rw [valV_map Sum.inl (fun _ _ => Sum.inl.inj) k xs]
    exact .inl (DGet.k ha)
  · obtain ⟨xs, rfl, ha⟩ := h
    obtain ⟨k, b, rfl, rfl, g⟩ := k
    rw [valV_map Sum.inr (fun _ _ => Sum.inr.inj) k xs]
    exact .inr ⟨xs, k, b, ha, rfl, g, rfl⟩
theorem DX.put {kd : Bool} {P : Program} {w : World} {H : Hp} {a : Addr} {kvs : List (Nd × V)} {v x : V} {n : Nd} {N : Hp → Prop} (h : DX kd P w H a kvs) (k : NdV kd H v n) (l : kvs.length < sizeLine) (hN : ∀ o, DX kd P w (upd H a o) a (putK kvs n x) → N (upd H a o)) : DPutX P w H a v x N := by
  cases kd
  · obtain ⟨xs, rfl, ha⟩ := h
    obtain ⟨k, rfl, rfl⟩ := k
    rw [List.length_map] at l
    refine .inl ⟨_, DPut.k ha l, hN _ ?_⟩
    rw [putK_map Sum.inl (fun _ _ => Sum.inl.inj) k x xs]
    exact ⟨_, rfl, upd_same⟩
  · obtain ⟨xs, rfl, ha⟩ := h
    obtain ⟨k, b, rfl, rfl, g⟩ := k
    rw [List.length_map] at l
    refine .inr ⟨xs, k, b, ha, rfl, g, l, fun o nd => hN o ?_⟩
    rw [putK_map Sum.inr (fun _ _ => Sum.inr.inj) k x xs]
    exact ⟨_, rfl, nd⟩
theorem DX.keep {kd : Bool} {P : Program} {w : World} {H H' : Hp} {a : Addr} {kvs : List (Nd × V)} (h : DX kd P w H a kvs) (ha : ∀ o, H a = some o → H' a = some o) (ht : ∀ b ys, H b = some (.tup ys) → H' b = some (.tup ys)) : DX kd P w H' a kvs := by
  cases kd
  · obtain ⟨xs, e, q⟩ := h
    exact ⟨xs, e, ha _ q⟩
  · obtain ⟨xs, e, q⟩ := h
    exact ⟨xs, e, q.keep ha ht⟩
theorem DX.there {kd : Bool} {P : Program} {w : World} {H : Hp} {a : Addr} {kvs : List (Nd × V)} (h : DX kd P w H a kvs) : ∃ o, H a = some o ∧ (∀ ys, o ≠ .tup ys) ∧ (∀ ys, o ≠ .lst ys) ∧ (∀ x u, o ≠ .frz x u) ∧ ∀ ps, o ≠ .tbl ps := by
  cases kd
  · obtain ⟨xs, e, q⟩ := h
    exact ⟨_, q, (fun _ z => by cases z), (fun _ z => by cases z), (fun _ _ z => by cases z), (fun _ z => by cases z)⟩
  · obtain ⟨xs, e, q⟩ := h
    obtain ⟨ys, q, _⟩ := q.ex
    exact ⟨_, q, (fun _ z => by cases z), (fun _ z => by cases z), (fun _ _ z => by cases z), (fun _ z => by cases z)⟩
/-- {}, and {v: x} -/
theorem DX.new {kd : Bool} {P : Program} {w : World} {H : Hp} {σ : L2.St} {Q : VK} (h : ∀ p o, H p = none → DX kd P w (upd H p o) p [] → Q (.ref p) (upd H p o)) : tDNewX P w σ H Q := by
  cases kd
  · exact .inl fun p np => h p _ np ⟨[], rfl, upd_same⟩
  · exact .inr fun p o np nd => h p o np ⟨[], rfl, nd⟩
theorem DX.one {kd : Bool} {P : Program} {w : World} {H : Hp} {σ : L2.St} {Q : VK} {i : Nat} {v x : V} {n : Nd} (hv : σ[i]? = some (some v)) (k : NdV kd H v n) (h : ∀ p H', Same H H' → H p = none → DX kd P w H' p [(n, x)] → Q (.ref p) H') : tDisp1X P w (tVar i) (tC x) σ H Q := by
  cases kd
  · obtain ⟨k, rfl, rfl⟩ := k
    refine .inl fun p np => ⟨_, hv, upd_same, [(k, x)], rfl, by show 1 ≤ 15; decide, h p _ (fun b o e => ?_) np ⟨[(k, x)], rfl, upd_same⟩⟩
    rw [upd_ne (ne_of_none e np), upd_ne (ne_of_none e np)]
    exact e
  · obtain ⟨k, b, rfl, rfl, g⟩ := k
    refine .inr fun p o np nd => ⟨_, hv, nd, k, b, rfl, g.keep fun c ys e => ?_, fun o' nd' => h p _ (fun c u e => ?_) np ⟨[(k, x)], rfl, nd'⟩⟩
    · rw [upd_ne (ne_of_none e np)]; exact e
    · rw [upd_ne (ne_of_none e np), upd_ne (ne_of_none e np)]
      exact e
/-- the steps from a node: pairs of a deed and a node -/
def EdL (H : Hp) (es : List V) (xs : List (V × V)) : Prop := Paired (fun e x => ∃ r, e = V.ref r ∧ H r = some (.tup [x.1, x.2])) es xs
theorem EdL.keep {H H' : Hp} {es : List V} {xs : List (V × V)} (h : EdL H es xs) (t : ∀ b ys, H b = some (.tup ys) → H' b = some (.tup ys)) : EdL H' es xs := Paired.mapP h fun _ _ ⟨r, e, q⟩ => ⟨r, e, t _ _ q⟩
def parV : Option Nat → V
  | none => .non
  | some p => .int ((p : Nat) : Int)
theorem sf_par (p : Option Nat) : Sf (parV p) := by cases p <;> exact .inl rfl
/-- rows in the heap -/
def RwL (H : Hp) (vs : List V) (rows : List Rw) : Prop := Paired (fun v r => ∃ a, v = V.ref a ∧ H a = some (.tup [r.1, .int ((r.2.1 : Nat) : Int), parV r.2.2.1, r.2.2.2])) vs rows
theorem RwL.keep {H H' : Hp} {es : List V} {xs : List Rw} (h : RwL H es xs) (t : ∀ b ys, H b = some (.tup ys) → H' b = some (.tup ys)) : RwL H' es xs := Paired.mapP h fun _ _ ⟨r, e, q⟩ => ⟨r, e, t _ _ q⟩
theorem paired_at {α β : Type} {F : α → β → Prop} : ∀ {l : List α} {m : List β}, Paired F l m → ∀ {i : Nat} {b : β}, m[i]? = some b → ∃ a, l[i]? = some a ∧ F a b
  | _, _, .nil, i, b, e => by simp at e
  | _, _, .cons r t, 0, b, e => by
    simp at e; subst e
    exact ⟨_, rfl, r⟩
  | _, _, .cons r t, i + 1, b, e => by
    obtain ⟨a, h1, h2⟩ := paired_at t (i := i) (b := b) (by simpa using e)
    exact ⟨a, by simpa using h1, h2⟩
end BF

namespace L2
open PySem PySem.Spec PyProof.Rows
/-! ### texts joined, str of an int or a text -/
/-- the text that join tells -/
def jn (sep : Str) : List Str → Str
  | [x] => x
  | l => Builtin.Str.glued sep l
def rJoin (K : PySem.W.Frag) : V → List V → Hp → VK → Prop := fun z vs H Q => ∃ sep a ss, z = .str sep ∧ vs = [.ref a] ∧ SqL K H a (ss.map V.str) ∧ sep.length ≤ 10 ∧ ss.length ≤ 100 ∧ (∀ x ∈ ss, x.length ≤ 1000) ∧ Q (.str (jn sep ss)) H
section
variable {X : Cx}
/-- the text of an int or a text -/
def tx : V → Str
  | .int n => toString n
  | .str x => x
  | _ => Str.empty
def TxOk (v : V) : Prop := (∃ n : Nat, v = .int n ∧ n < 10 ^ 60) ∨ ∃ x, v = .str x ∧ x.length ≤ 100
end
end L2

namespace L2
open PySem PySem.Spec PyProof.Rows PySem.W
/-! ### try, with the names kept -/
/-- an exception of a callee that is called while the names are σ -/
def PassesAt (CX : CXT) (X : Cx) (σ : St) (E : XK) : Prop := ∀ (pins : List (Addr × Obj)) (H : Hp) (s : Shared) (e : Value) (s' : Shared), Inv X pins σ H s → CX X.stack H s E e s' → X.xe e s'
section
variable {X : Cx}
/-- as tTry, of a body that changes no name: the others stay -/
def tTryS (K : Frag) (i j : Nat) (Dc : Addr) (tb : St → XK → TS) : TS := fun D σ H => tb σ (fun cls dd H' => ∃ C, cls = .ref C ∧ ExK K C ∧ subIn K (.ref C) (.ref Dc) = some true ∧ ∀ a, H' a = none → D.nx (((σ.set i (some (.ref a))).set j (some (.ref a))).set i none) (upd H' a (excD a C dd))) D σ H
end
end L2
namespace L2
open PySem PySem.Spec PyProof.Rows
variable {X : Cx}
/-! ### a dict that is held still, read -/
def rSortDSR : List V → Hp → VK → Prop := fun xs H Q => ∃ a kvs, ∃ ss : List Str, xs = [.ref a] ∧ Rd H a (.dK kvs) ∧ kvs.map (·.1) = ss.map Sum.inr ∧ kvs.length < 64 ∧ ∀ (p : Addr) (ss' : List Str), ss'.Perm ss → sortedS ss' = true → H p = none → Q (.ref p) (upd H p (.lst (ss'.map V.str)))
def tListValsR (td : TE) : TE := fun σ H Q => td σ H fun x H1 => ∃ a kvs, x = .ref a ∧ Rd H1 a (.dK kvs) ∧ ∀ p, H1 p = none → Q (.ref p) (upd H1 p (.lst (kvs.map (·.2))))
end L2

namespace L2
open PySem PySem.Spec PyProof.Rows PySem.W
/-! ### try .. except D: .. (the error gets no name) -/
def tTryN (K : Frag) (Dc : Addr) (tb : St → XK → TS) (th : TS) : TS := fun D σ H => tb σ (fun cls _ H' => ∃ C, cls = .ref C ∧ ExK K C ∧ subIn K (.ref C) (.ref Dc) = some true ∧ th D σ H') D σ H
section
variable {X : Cx}
end
end L2

namespace L2
open PySem PySem.Spec PyProof.Rows
/-! ### heaps that grow, in which dicts may come to be held still -/
def Fz (H H' : Hp) : Prop := ∀ b o, H b = some o → H' b = some o ∨ ∃ ob kvs, o = .dK kvs ∧ H' b = some (.frz ob (.dK kvs))
/-- d is held still, all else is as it was -/
def Hld (d : Addr) (ob : Obj) (kvs : List (Key × V)) (H H' : Hp) : Prop := H' d = some (.frz ob (.dK kvs)) ∧ (∀ b, b ≠ d → H' b = H b) ∧ (H d = some (.dK kvs) ∨ H d = some (.frz ob (.dK kvs)))
section
variable {X : Cx}
/-- a dict walked that may be held still already -/
def iDictR (tl : TE) : TI := fun σ H R => tl σ H fun x H1 => ∃ d kvs, x = .ref d ∧ Rd H1 d (.dK kvs) ∧ ∀ ob H2, Hld d ob kvs H1 H2 → R (Itd d ob kvs) H2
/-! ### dict(d), isinstance(d, dict) -/
def rDictD : List V → Hp → VK → Prop := fun xs H Q => ∃ a kvs, xs = [.ref a] ∧ Rd H a (.dK kvs) ∧ ∀ p, H p = none → Q (.ref p) (upd H p (.dK kvs))
/-! ### == and != of dicts that tell the same -/
/-- each value of the one is told by the other -/
def DDeq (K : PySem.W.Frag) (H : Hp) (ka kb : List (Key × V)) : Prop := ka.length = kb.length ∧ ∀ kv ∈ ka, ∃ v' d, valV kb kv.1 = some v' ∧ Dv K H 30 kv.2 d ∧ Dv K H 30 v' d
def rNeDD (K : PySem.W.Frag) : R2 := fun x y H Q => ∃ a b ka kb, x = .ref a ∧ y = .ref b ∧ Rd H a (.dK ka) ∧ Rd H b (.dK kb) ∧ DDeq K H ka kb ∧ Q (.bl false) H
def rEqDD (K : PySem.W.Frag) : R2 := fun x y H Q => ∃ a b ka kb, x = .ref a ∧ y = .ref b ∧ Rd H a (.dK ka) ∧ Rd H b (.dK kb) ∧ DDeq K H ka kb ∧ Q (.bl true) H
end
end L2

namespace L2
open PySem PySem.Spec PyProof.Rows
/-! ### != of two lists of dicts that tell the same, at one program -/
/-- the two are equal, at this program -/
def EqIn (P : Program) (w : World) (A : Around) (s : Shared) (y x : Value) : Prop := ∀ (E : Value → Shared → Prop) (Q : Bool → Shared → Prop), Q true s → wpAny (model P w) A (eqBool y x) Q E s
section
open AutoSeq1 MeetsSeq MeetsSeq2 MeetsSeq3 SeqAt
variable {P : Program} {w : World}
end
section
variable {X : Cx}
def rNeLD (K : PySem.W.Frag) : R2 := fun x y H Q => ∃ a b xs ys, x = .ref a ∧ y = .ref b ∧ SqL K H a xs ∧ SqL K H b ys ∧ xs.length = ys.length ∧
  (∀ (j : Nat) x y, xs[j]? = some x → ys[j]? = some y → ∃ da db ka kb, x = .ref da ∧ y = .ref db ∧ Rd H da (.dK ka) ∧ Rd H db (.dK kb) ∧ DDeq K H ka kb) ∧ Q (.bl false) H
end
end L2

namespace HT
open PySem PyProof.Rows
/-- t < u of tuples of texts -/
def lexLtS : List Str → List Str → Bool
  | [], [] => false
  | [], _ :: _ => true
  | _ :: _, [] => false
  | x :: xs, y :: ys => if x = y then lexLtS xs ys else decide (x.cps.toList < y.cps.toList)
section
open PySem.SeqAt
open PySem.AutoSeq1 (wpAny_loadPart')
open PySem.MeetsSeq PySem.MeetsSeq2 PySem.MeetsSeq3

end

section
variable {prog : Program} {w : World} {A : Around} {E : Value → Shared → Prop} {s : Shared}

end
end HT
namespace L2
open PySem PySem.Spec PyProof.Rows
section
variable {X : Cx}
def rLtTS (K : PySem.W.Frag) : R2 := fun x y H Q => ∃ a b ns ms, x = .ref a ∧ y = .ref b ∧ SqT K H a (ns.map V.str) ∧ SqT K H b (ms.map V.str) ∧ Q (.bl (HT.lexLtS ns ms)) H
end
end L2

namespace HT
open PySem PySem.Spec PyProof.Rows
section
variable {prog : Program} {w : World} {A : Around} {E : Value → Shared → Prop} {s : Shared}
end
end HT
namespace L2
open PySem PySem.Spec PyProof.Rows
section
variable {X : Cx}
/-- () + u -/
def rCatT0 (K : PySem.W.Frag) : R2 := fun x y H Q => ∃ a b ys, x = .ref a ∧ y = .ref b ∧ SqT K H a [] ∧ SqT K H b ys ∧ Q (.ref b) H
/-- t + u, whatever t is -/
def rCatTA (K : PySem.W.Frag) : R2 := fun x y H Q => rCatT0 K x y H Q ∨ rCatT K x y H Q
/-- t * k, t not empty, k from 2 on -/
def rRepT (K : PySem.W.Frag) : R2 := fun x y H Q => ∃ a k xs, x = .ref a ∧ y = .int k ∧ SqT K H a xs ∧ xs ≠ [] ∧ 2 ≤ k ∧ k ≤ 1000 ∧ xs.length ≤ 1000 ∧ ∀ p, H p = none → Q (.ref p) (upd H p (.tup (List.replicate k.toNat xs).flatten))
end
end L2

namespace L2
open PySem PySem.Spec PyProof.Rows
/-! ### for over range(a, b, c) -/
def Itr3 (lo c : Int) (n : Nat) : It := ⟨fun i _ => i < n, fun i H x H' => H' = H ∧ x = .int (lo + (i : Nat) * c), fun i _ => n ≤ i⟩
def iRng3 (ta : TA) : TI := fun σ H R => ta σ H fun vs H1 => ∃ i j c : Int, vs = [.int i, .int j, .int c] ∧ (-(2 ^ 20) ≤ i ∧ i ≤ 2 ^ 20 ∧ -(2 ^ 20) ≤ j ∧ j ≤ 2 ^ 20 ∧ 0 < c ∧ c ≤ 2 ^ 20) ∧ R (Itr3 i c (if i < j then (j - i - 1) / c + 1 else 0).toNat) H1
end L2

namespace L2
open PySem PySem.Spec PyProof.Rows
/-! ### sorted(xs, reverse=True) of ints -/
def tSortR (K : PySem.W.Frag) (te : TE) : TE := fun σ H Q => te σ H fun x H1 => ∃ (a : Addr) (ns : List Int), x = .ref a ∧ SqL K H1 a (ns.map V.int) ∧ ns.length < 64 ∧
  ∀ (p : Addr) (ns' : List Int), ns'.Perm ns → ns'.Pairwise (· ≥ ·) → H1 p = none → Q (.ref p) (upd H1 p (.lst (ns'.map V.int)))
/-! ### for over reversed(range(n)) -/
abbrev rngObj (n : Int) (t u v : Tok) : Obj := { cls := .type "range", data := .fields #[.int 0 t, .int n u, .int 1 v] }
abbrev rngIt (n : Int) : Obj := { cls := .type "range_iterator", data := .fields #[rawInt (n - 1), rawInt n, rawInt (-1)] }
section
variable {prog : Program} {w : World} {A : Around} {E : Value → Shared → Prop} {s : Shared}
end
def iRev (ta : TA) : TI := fun σ H R => ta σ H fun vs H1 => ∃ n : Int, vs = [.int n] ∧ 0 ≤ n ∧ n < 2 ^ 62 ∧ R (Itr3 (n - 1) (-1) n.toNat) H1
end L2

namespace L2
open PySem PySem.Spec PyProof.Rows
/-! ### for over reversed(a list) -/
def Itv (K : PySem.W.Frag) (a : Addr) (n : Nat) : It :=
  ⟨fun i H => ∃ xs, SqL K H a xs ∧ xs.length = n ∧ i < n, fun i H x H' => H' = H ∧ ∀ xs, SqL K H a xs → xs[n - 1 - i]? = some x, fun i H => n ≤ i⟩
def iRevL (K : PySem.W.Frag) (ta : TA) : TI := fun σ H R => ta σ H fun vs H1 => ∃ a xs, vs = [.ref a] ∧ SqL K H1 a xs ∧ R (Itv K a xs.length) H1
end L2

namespace L2
open PySem PySem.Spec PyProof.Rows
end L2

namespace L2
open PySem PySem.Spec PyProof.Rows
end L2

namespace L2
open PySem PySem.Spec PyProof.Rows PySem.W
/-- a def of the text that may be called by its name with its last argument left out -/
structure Cal1 (P : Program) (w : World) (K : Frag) (mg : Str → Option Value) (base : Heap) (CX : CXT) (k : Nat) (x : Str) (ps : List Str) (sp : Sp) (dv : V) : Prop where
  ex : ∃ (f : Addr) (fd : FuncData) (u : Value), mg x = some (.ref f) ∧ keepIn K (.ref f) = true ∧ Binds K fd ps [u] ∧ RelV dv u ∧ FnOk P w K mg base CX k f fd ps sp
end L2

namespace L2
open PySem PySem.Spec PyProof.Rows
/-! ### loops whose turns know nothing of what comes behind -/
theorem for_listN {K : PySem.W.Frag} {a : Addr} {xs : List V} {g : TG} {tb : TS} {D : Ends} {σ : St} {H : Hp} (Pv : Nat → St → Hp → Prop) (h0 : Pv 0 σ H) (hl : ∀ i σ H, i ≤ xs.length → Pv i σ H → SqL K H a xs)
    (hs : ∀ i x σ H (D' : Ends), (∀ σ' H', Pv (i + 1) σ' H' → D'.nx σ' H') → xs[i]? = some x → Pv i σ H → g x σ H (tb D')) (hd : ∀ σ H, Pv xs.length σ H → D.nx σ H) :
    ∃ W : Nat → Nat → St → Hp → Prop, (∃ m, W 0 m σ H) ∧ ∀ i m σ H, W i m σ H →
      ((Itl K a).stop i H ∧ D.nx σ H) ∨ ((Itl K a).go i H ∧ ∃ N : St → Hp → Prop, (∀ σ' H', N σ' H' → ∃ m', m' < m ∧ W (i + 1) m' σ' H') ∧ ∀ x H', (Itl K a).yld i H x H' → g x σ H' fun σ2 H2 => tb { D with nx := N, ct := N, bk := D.nx } σ2 H2) :=
  for_list Pv h0 hl (fun i x σ H hx p => hs i x σ H { D with nx := Pv (i + 1), ct := Pv (i + 1), bk := D.nx } (fun _ _ h => h) hx p) hd
theorem for_rangeN {lo : Int} {n : Nat} {g : TG} {tb : TS} {D : Ends} {σ : St} {H : Hp} (Pv : Nat → St → Hp → Prop) (h0 : Pv 0 σ H)
    (hs : ∀ i σ H (D' : Ends), (∀ σ' H', Pv (i + 1) σ' H' → D'.nx σ' H') → i < n → Pv i σ H → g (.int (lo + i)) σ H (tb D')) (hd : ∀ σ H, Pv n σ H → D.nx σ H) :
    ∃ W : Nat → Nat → St → Hp → Prop, (∃ m, W 0 m σ H) ∧ ∀ i m σ H, W i m σ H →
      ((Itr lo n).stop i H ∧ D.nx σ H) ∨ ((Itr lo n).go i H ∧ ∃ N : St → Hp → Prop, (∀ σ' H', N σ' H' → ∃ m', m' < m ∧ W (i + 1) m' σ' H') ∧ ∀ x H', (Itr lo n).yld i H x H' → g x σ H' fun σ2 H2 => tb { D with nx := N, ct := N, bk := D.nx } σ2 H2) :=
  for_range Pv h0 (fun i σ H hi p => hs i σ H { D with nx := Pv (i + 1), ct := Pv (i + 1), bk := D.nx } (fun _ _ h => h) hi p) hd
end L2

namespace K61
open PySem PySem.Spec PyProof.Rows L2 GM TM BF
def top (i : Nat) : Stmt := PySem.Challenge.pw_phialhouse_k61_spread_so_deep.main.body.getD i (.Pass ⟨0, 0, 0, 0⟩)
abbrev sSpread : Stmt := top 4
abbrev sCell : Stmt := top 6
abbrev sWhole : Stmt := top 7
abbrev sMixed : Stmt := top 8
abbrev sNodes : Stmt := top 9
abbrev sGraph : Stmt := top 10
abbrev sRows : Stmt := top 11
abbrev sStepsOf : Stmt := top 12
abbrev sSoughtOf : Stmt := top 13
abbrev sTold : Stmt := top 14
abbrev sAlike : Stmt := top 15
abbrev sChain : Stmt := top 16
abbrev sStar : Stmt := top 17
abbrev sGraphBy : Stmt := top 18
abbrev sAskedBy : Stmt := top 19
abbrev sLaw : Stmt := top 20
abbrev sInit : Stmt := inClass (top 2) 0
structure Txt (mg : Str → Option Value) : Prop where
  isi : mg "isinstance" = none
  int' : mg "int" = none
  bool' : mg "bool" = none
  tup' : mg "tuple" = none
  str' : mg "str" = none
  len : mg "len" = none
  range : mg "range" = none
  min' : mg "min" = none
  abs' : mg "abs" = none
  list' : mg "list" = none
  val : mg "ValueError" = none
structure ErM (K : PySem.W.Frag) (mg : Str → Option Value) (cP cM fI : Addr) : Prop where
  ef : ExF K cM cP fI "most"
  ct : CtK K cM
  bi : BaseI K cP
  s : PySem.W.subIn K (.ref cM) (.ref cM) = some true
  iP : PySem.W.kitOne K (.ref cM) (.ref cP) = some true
  iV : PySem.W.kitOne K (.ref cM) (.type "ValueError") = some true
  mP : mg "PhialError" = some (.ref cP)
  mM : mg "TooMany" = some (.ref cM)
theorem lenC (x : Str) : x.length = (cps x).length := by simp [Str.length, cps]
theorem lenA (x y : Str) : (x ++ y).length = x.length + y.length := by rw [lenC, cps_append', List.length_append, ← lenC, ← lenC]
theorem cpsT (t : Nat) : cps ((toString (t : Int) : String) : Str) = dg t := PySem.W.KIN.signs_num t
theorem logT {t : Nat} (h : t < 10 ^ 60) : ((t : Int)).natAbs.log2 < 1920 := by
  rw [Int.natAbs_natCast]
  by_cases z : t = 0
  · subst z
    decide
  · exact (Nat.log2_lt z).mpr (Nat.lt_trans h (by decide +kernel))
theorem row_len {n : Nat} (h : n < 10000) : ((toString (n : Int) : String) : Str).length ≤ 60 := by
  rw [lenC, cpsT]
  exact dg_len (Nat.lt_trans h (by decide +kernel))
def spInit (c : Addr) : Sp := fun vs H Q _ => ∃ (e : Addr) (n : Nat), vs = [.ref e, .int (n : Nat)] ∧ n < 10000 ∧ H e = some (exN e c none) ∧ ∀ dx, H dx = none → dx ≠ e → Q .non (upd (upd H e (exN e c (some dx))) dx (xdE dx [("most", .int (n : Nat))]))
/-- refused: too many, with this number -/
def BadM (c : Addr) (n : Nat) (H : Hp) (E : XK) : Prop := ∀ dx H', Same H H' → H' dx = some (xdE dx [("most", .int (n : Nat))]) → E (.ref c) (some dx) H'
theorem BadM.mono {c : Addr} {n : Nat} {H H1 : Hp} {E : XK} (h : BadM c n H E) (s : Same H H1) : BadM c n H1 E := fun dx H' s' hd => h dx H' (s.trans s') hd
theorem raiseM {c : Addr} {n : Nat} {H : Hp} {E : XK} (rv : n < 10000) (h : BadM c n H E) : [V.int (n : Nat)].length ≤ sizeLine ∧ ∀ e, H e = none → spInit c [.ref e, .int (n : Nat)] (upd H e (exN e c none)) (fun v H2 => v = .non ∧ ∃ dd, H2 e = some (exN e c dd) ∧ E (.ref c) dd (rem H2 e)) E0 := by
  refine ⟨(by show 1 ≤ sizeLine; decide), fun e he => ⟨e, n, rfl, rv, upd_same, fun dx hd ne => ⟨rfl, some dx, ?_, ?_⟩⟩⟩
  · rw [upd_ne (Ne.symm ne), upd_same]
  · have hd' : H dx = none := by
      rw [upd_ne ne] at hd
      exact hd
    refine h dx _ (fun b o hb => ?_) ?_
    · have n1 : b ≠ e := fun z => by rw [z, he] at hb; cases hb
      have n2 : b ≠ dx := fun z => by rw [z, hd'] at hb; cases hb
      rw [rem_ne n1, upd_ne n2, upd_ne n1, upd_ne n1]
      exact hb
    · rw [rem_ne ne, upd_same]
section
variable {P : Program} {w : World} {K : PySem.W.Frag} {mg : Str → Option Value} {base : Heap} {cP cM fI : Addr}
theorem scInit : FnScope ["self", "most"] ["self", "most"] (defScope sInit) := ⟨rfl, rfl, rfl, by decide +kernel, rfl, by decide +kernel, by decide +kernel⟩
theorem ok_init {f : Addr} {fd : FuncData} (F : Fun K "__init__" "TooMany.__init__" sInit f fd) (R : ErM K mg cP cM fI) : FnOk P w K mg base CX0 1 f fd ["self", "most"] (spInit cM) := by
  refine F.ok scInit (fun vs H Q E h => ?_) (fun cdv A outer s H vs Q E hr h => ?_)
  · obtain ⟨_, _, rfl, _⟩ := h
    rfl
  · obtain ⟨e, n, rfl, hn, he, k⟩ := h
    refine ⟨_, pss_cons (ps_expr (pe_binit rfl R.mP R.bi (pa_cons (pv 0) (pa_cons (pe_join (pj_cons pe_str (pj_cons (pe_fmt (pv 1)) pj_nil))) pa_nil))))
      (pss_one (ps_exN (C := cM) (P := cP) (f := fI) rfl (pv 0) (pv 1) rfl)), ?_⟩
    have hl := row_len hn
    have l1 : ("there are more rows than " : Str).length = 25 := by decide +kernel
    refine ⟨_, rfl, _, rfl, ?_, _, rfl, _, ⟨logT (Nat.lt_trans hn (by decide +kernel)), rfl⟩, _, rfl, ?_, ?_, e, cM, none, fI, _, rfl, he, R.ef.i, ?_⟩
    · exact sz1000 (by rw [lenA, l1]; show 0 + 25 ≤ 1000; decide)
    · exact sz1000 (by rw [lenA, lenA, l1]; show 0 + 25 + _ ≤ 1000; omega)
    · exact sz1000 (by rw [lenA, lenA, l1]; show 0 + 25 + _ ≤ 1000; omega)
    exact ⟨_, rfl, _, rfl, e, rfl, he, R.ef, fun dx hd ne => k dx hd ne⟩
end
end K61

namespace K61
open PySem PySem.Spec PyProof.Rows L2 GM TM BF
/-! ### spread -/
def spSteps (B : Prm) (us : List V) : Sp := fun vs H Q _ => ∃ v, vs = [v] ∧ v ∈ us ∧ ∀ p es H', Same H H' → H p = none → H' p = some (.lst es) → EdL H' es (B.E (B.key v)) → Q (.ref p) H'
def spSought (B : Prm) (us : List V) : Sp := fun vs H Q _ => ∃ v, vs = [v] ∧ v ∈ us ∧ ∀ H', Same H H' → Q (.bl (B.goal (B.key v))) H'
/-- the nodes -/
structure Uv (kd : Bool) (H : Hp) (us : List V) (B : Prm) : Prop where
  nd : ∀ v ∈ us, NdV kd H v (B.key v)
  ed : ∀ v ∈ us, ∀ x ∈ B.E (B.key v), x.2 ∈ us ∧ Sf x.1
  m1 : 1 ≤ B.most
  m2 : B.most ≤ 2000
theorem Uv.keep {kd : Bool} {H H' : Hp} {us : List V} {B : Prm} (h : Uv kd H us B) (s : Same H H') : Uv kd H' us B := ⟨fun v hv => (h.nd v hv).keep fun b ys => s _ _, h.ed, h.m1, h.m2⟩
def RetR (H : Hp) (Q : VK) (rows : List Rw) (x : V) : Prop := ∀ z l vs H', Same H H' → H' z = some (.tup [.ref l, x]) → H' l = some (.lst vs) → RwL H' vs rows → Q (.ref z) H'
def OutR (cM : Addr) (most : Nat) (H : Hp) (Q : VK) (E : XK) : Res → Prop
  | .found rows => RetR H Q rows (.int ((rows.length : Nat) - 1 : Int))
  | .none rows => RetR H Q rows .non
  | .many => BadM cM most H E
def spSpread (P : Program) (w : World) (K : PySem.W.Frag) (mg : Str → Option Value) (base : Heap) (cM : Addr) : Sp := fun vs H Q E => ∃ v0 fs fg kd us B, vs = [v0, .ref fs, .ref fg, .int ((B.deep : Nat) : Int), .int ((B.most : Nat) : Int)] ∧ Uv kd H us B ∧ v0 ∈ us ∧
  Clo P w K mg base CX0 2 H fs (spSteps B us) ∧ Clo P w K mg base CX0 2 H fg (spSought B us) ∧ OutR cM B.most H Q E (bfs B v0)
theorem sm0 {H H1 : Hp} {p : Addr} (h : Same H H1) (n : H1 p = none) : H p = none := by
  cases q : H p with
  | none => rfl
  | some o => rw [h _ _ q] at n; cases n
/-- what is laid: the nodes of the rows -/
structure Laid (B : Prm) (kvs : List (Nd × V)) (rows : List Rw) : Prop where
  mem : ∀ n, (valV kvs n).isSome = rows.any fun r => decide (B.key r.1 = n)
  len : kvs.length = rows.length
theorem valV_snoc {κ : Type} [DecidableEq κ] {kvs : List (κ × V)} {k n : κ} {v : V} : (valV (kvs ++ [(k, v)]) n).isSome = ((valV kvs n).isSome || decide (k = n)) := by
  unfold valV
  rw [List.find?_append]
  cases e : kvs.find? (fun kv => decide (kv.1 = n)) with
  | some x => rfl
  | none =>
    by_cases h : k = n
    · rw [decide_eq_true h]
      simp [h]
    · rw [decide_eq_false h]
      simp [h]
theorem Laid.put {B : Prm} {kvs : List (Nd × V)} {rows : List Rw} {n : Nd} {r : Rw} {x : V} (h : Laid B kvs rows) (e : B.key r.1 = n) (f : (valV kvs n).isSome = false) : Laid B (putK kvs n x) (rows ++ [r]) := by
  have pk : putK kvs n x = kvs ++ [(n, x)] := by
    unfold putK
    rw [if_neg]
    rw [valV_any, f]
    decide
  rw [pk]
  refine ⟨fun m => ?_, by rw [List.length_append, List.length_append, h.len]; rfl⟩
  rw [valV_snoc, h.mem m, List.any_append]
  congr 1
  show _ = (decide (B.key r.1 = m) || false)
  rw [e, Bool.or_false]
theorem size2001 {n : Nat} (h : n ≤ 3000) : n < sizeLine := Nat.lt_of_le_of_lt h (by decide)
theorem RwL.len {H : Hp} {vs : List V} {rows : List Rw} (h : RwL H vs rows) : vs.length = rows.length := Paired.length h
theorem RwL.snoc {H : Hp} {vs : List V} {rows : List Rw} {a : Addr} {r : Rw} (h : RwL H vs rows) (ha : H a = some (.tup [r.1, .int ((r.2.1 : Nat) : Int), parV r.2.2.1, r.2.2.2])) : RwL H (vs ++ [.ref a]) (rows ++ [r]) := Paired.snoc h ⟨a, rfl, ha⟩
theorem drop_cons' {α : Type} {xs : List α} {i : Nat} {x : α} (h : xs[i]? = some x) : xs.drop i = x :: xs.drop (i + 1) := by
  obtain ⟨hi, e⟩ := List.getElem?_eq_some_iff.mp h
  rw [List.drop_eq_getElem_cons hi, e]
theorem inner_cons {B : Prm} {p d : Nat} {rows : List Rw} {x : V × V} {es : List (V × V)} : inner B p d rows (x :: es) = if (rows.any fun r => decide (B.key r.1 = B.key x.2)) = true then inner B p d rows es else if B.most ≤ rows.length then .inr .many else
    if B.goal (B.key x.2) = true then .inr (.found (rows ++ [(x.2, d + 1, some p, x.1)])) else inner B p d (rows ++ [(x.2, d + 1, some p, x.1)]) es := rfl
def nxR (B : Prm) (n p : Nat) : List Rw ⊕ Res → Res
  | .inl rows => outer B n rows (p + 1)
  | .inr x => x
theorem outer_at {B : Prm} {rows : List Rw} {n p : Nat} {r : Rw} (h : rows[p]? = some r) : outer B (n + 1) rows p = if r.2.1 < B.deep then nxR B n p (inner B p r.2.1 rows (B.E (B.key r.1))) else .none rows := by
  unfold outer
  rw [h]
  show (if r.2.1 < B.deep then _ else _) = _
  split
  · cases inner B p r.2.1 rows (B.E (B.key r.1)) <;> rfl
  · rfl
theorem outer_end {B : Prm} {rows : List Rw} {n p : Nat} (h : rows.length ≤ p) : outer B (n + 1) rows p = .none rows := by
  unfold outer
  rw [List.getElem?_eq_none h]
/-- the state of a spread -/
structure SpI (kd : Bool) (P : Program) (w : World) (H0 H : Hp) (us : List V) (B : Prm) (l d : Addr) (rows : List Rw) : Prop where
  sm : Same H0 H
  ri : RI B us rows
  ls : ∃ vs, H l = some (.lst vs) ∧ RwL H vs rows
  dx : ∃ kvs, DX kd P w H d kvs ∧ Laid B kvs rows
  nl : H0 l = none
  nd : H0 d = none
  ld : l ≠ d
theorem SpI.keep {kd : Bool} {P : Program} {w : World} {H0 H H' : Hp} {us : List V} {B : Prm} {l d : Addr} {rows : List Rw} (h : SpI kd P w H0 H us B l d rows) (s : Same H H') : SpI kd P w H0 H' us B l d rows := by
  obtain ⟨vs, h1, h2⟩ := h.ls
  obtain ⟨kvs, h3, h4⟩ := h.dx
  exact ⟨h.sm.trans s, h.ri, ⟨vs, s _ _ h1, h2.keep fun b ys => s _ _⟩, ⟨kvs, h3.keep (fun o => s _ _) fun b ys => s _ _, h4⟩, h.nl, h.nd, h.ld⟩
/-- a row is appended, its node laid -/
theorem SpI.add {kd : Bool} {P : Program} {w : World} {H0 H H2 : Hp} {us : List V} {B : Prm} {l d a : Addr} {rows : List Rw} {r : Rw} {o : HO} {vs : List V} {kvs : List (Nd × V)} (h : SpI kd P w H0 H us B l d rows) (hl : H l = some (.lst vs)) (hr : RwL H vs rows) (hk : Laid B kvs rows) (f : (valV kvs (B.key r.1)).isSome = false)
    (dx1 : DX kd P w (upd H d o) d (putK kvs (B.key r.1) (.bl true))) (s2 : Same (upd H d o) H2) (ha : H2 a = some (.tup [r.1, .int ((r.2.1 : Nat) : Int), parV r.2.2.1, r.2.2.2])) (lt : rows.length < B.most) (ru : r.1 ∈ us) (rd : r.2.1 ≤ B.deep) (rs : Sf r.2.2.2)
    (tk : ∀ b ys, H b = some (.tup ys) → b ≠ d) : H2 l = some (.lst vs) ∧ SpI kd P w H0 (upd H2 l (.lst (vs ++ [.ref a]))) us B l d (rows ++ [r]) := by
  have hl2 : H2 l = some (.lst vs) := s2 _ _ (by rw [upd_ne h.ld]; exact hl)
  have t2 : ∀ b ys, H b = some (.tup ys) → upd H2 l (.lst (vs ++ [.ref a])) b = some (.tup ys) := fun b ys e => by
    have nb : b ≠ l := fun z => by rw [z, hl] at e; cases e
    rw [upd_ne nb]
    exact s2 _ _ (by rw [upd_ne (tk b ys e)]; exact e)
  have al : a ≠ l := fun z => by rw [z, hl2] at ha; cases ha
  refine ⟨hl2, ⟨fun b u e => ?_, h.ri.snoc lt ru rd rs, ⟨_, upd_same, K61.RwL.snoc (hr.keep t2) (by rw [upd_ne al]; exact ha)⟩, ⟨_, ?_, hk.put (x := .bl true) rfl f⟩, h.nl, h.nd, h.ld⟩⟩
  · rw [upd_ne (ne_of_none e h.nl)]
    exact s2 _ _ (by rw [upd_ne (ne_of_none e h.nd)]; exact h.sm _ _ e)
  · refine dx1.keep (fun u e => ?_) fun b ys e => ?_
    · rw [upd_ne (Ne.symm h.ld)]
      exact s2 _ _ e
    · have nb : b ≠ l := fun z => by rw [z, upd_ne h.ld, hl] at e; cases e
      rw [upd_ne nb]
      exact s2 _ _ e
section
variable {P : Program} {w : World} {K : PySem.W.Frag} {mg : Str → Option Value} {base : Heap} {cP cM fI : Addr}
abbrev Nsp : List Str := ["first", "steps", "sought", "deepest", "most", "rows", "laid", "place", "here", "deed", "node"]
theorem scSp : FnScope Nsp ["first", "steps", "sought", "deepest", "most"] (defScope sSpread) := ⟨rfl, rfl, rfl, by decide +kernel, rfl, by decide +kernel, by decide +kernel⟩
theorem ok_spread {f dT : Addr} {fdI : FuncData} {oc kV doc pm cdv ct : Value} {od an : Option Addr} {osl : Array (Option Value)} (lk : K.lookup f = some ⟨oc, od, .func (PySem.W.fnOf "spread" "spread" (defArgs sSpread) (defBody sSpread) (defScope sSpread) (.ref dT) kV doc pm an cdv ct), osl⟩) (hcd : PySem.W.codeIn K cdv "spread" = true)
    (T : Txt mg) (R : ErM K mg cP cM fI) (FI : FnOk P w K mg base CX0 1 fI fdI ["self", "most"] (spInit cM)) (bI : Binds K fdI ["self", "most"] []) :
    FnOk P w K mg base (CXg P w) 4 f (PySem.W.fnOf "spread" "spread" (defArgs sSpread) (defBody sSpread) (defScope sSpread) (.ref dT) kV doc pm an cdv ct) ["first", "steps", "sought", "deepest", "most"] (spSpread P w K mg base cM) := by
  refine fn_of lk hcd scSp (fun vs H Q E h => ?_) fun A oo s H vs Q E hr hsp => ?_
  · obtain ⟨_, _, _, _, _, _, rfl, _⟩ := h
    rfl
  · obtain ⟨v0, fs, fg, kd, us, B, rfl, uv, h0, cS, cG, out⟩ := hsp
    refine ⟨_, (pss_cons (ps_set (i := 5) scSp.nd rfl (Or.inl rfl) (pe_lst (pa_cons (pe_tup (pa_cons (pv 0) (pa_cons pe_int (pa_cons pe_non (pa_cons pe_non pa_nil))))) pa_nil)))
      (pss_cons (ps_if (pt_val (pe_clo (i := 2) (k := 2) (hr.mono (by decide)) pass0 rfl rfl (pa_cons (pv 0) pa_nil)))
        (pss_one (ps_ret (pe_tup (pa_cons (pv 5) (pa_cons pe_int pa_nil)))))
        pss_nil)
      (pss_cons (ps_set (i := 6) scSp.nd rfl (Or.inl rfl) (pe_disp1X (Nat.lt_of_le_of_lt (Nat.add_le_add_left (by decide : 1 ≤ 64) _) hr.units) (pv 0) pe_bl))
      (pss_cons (ps_set (i := 7) scSp.nd rfl (Or.inl rfl) pe_int)
      (pss_cons (ps_while PassesOwn.leaving (PW.pt (pw_and (pt_cmpR op_lt (pv 7) (pe_callB call_len_seq rfl T.len PySem.boot_len (pa_cons (pv 5) pa_nil)) (nomark _)) (pw_and1 (pt_cmpR op_lt (pe_ix ix_tup (pe_ix ix_list (pv 5) (pv 7) (fun _ _ => rfl)) pe_int (fun _ _ => rfl)) (pv 3) (nomark _)))))
        (pss_cons (ps_set (i := 8) scSp.nd rfl (Or.inl rfl) (pe_ix ix_list (pv 5) (pv 7) (fun _ _ => rfl)))
        (pss_cons (ps_for PassesOwn.leaving rfl (pi_list (pe_clo (i := 1) (k := 2) (hr.mono (by decide)) pass0 rfl rfl (pa_cons (pit 8 0) pa_nil))) (pg_tup rfl (pgs_cons (pg_name (i := 9) scSp.nd rfl (Or.inl rfl)) (pgs_cons (pg_name (i := 10) scSp.nd rfl (Or.inl rfl)) pgs_nil)))
          (pss_one (ps_if (pt_cmp (pc_dnotinX (Nat.lt_of_le_of_lt (Nat.add_le_add_left (by decide : 2 ≤ 64) _) hr.units) (pv 10) (pv 6)))
            (pss_cons (ps_if (pt_cmpR op_ge (pe_callB call_len_seq rfl T.len PySem.boot_len (pa_cons (pv 5) pa_nil)) (pv 4) (nomark _))
              (pss_one (ps_raiseI (k := 1) rfl xe_f rfl (hr.mono (by decide)) rfl R.mM R.ef.i FI bI (pa_cons (pv 4) pa_nil)))
              pss_nil)
            (pss_cons (ps_dputX (Nat.lt_of_le_of_lt (Nat.add_le_add_left (by decide : 2 ≤ 64) _) hr.units) (pv 6) (pv 10) pe_bl rfl)
            (pss_cons (ps_expr (pe_bm PySem.F.plainAttrs_list PySem.F.slot_list_append PySem.F.type_list_append mt_append (pv 5) (pa_cons (pe_tup (pa_cons (pv 10) (pa_cons (pe_op op_add (pit 8 1) pe_int) (pa_cons (pv 7) (pa_cons (pv 9) pa_nil))))) pa_nil)))
            (pss_one (ps_if (pt_val (pe_clo (i := 2) (k := 2) (hr.mono (by decide)) pass0 rfl rfl (pa_cons (pv 10) pa_nil)))
              (pss_one (ps_ret (pe_tup (pa_cons (pv 5) (pa_cons (pe_op op_sub (pe_callB call_len_seq rfl T.len PySem.boot_len (pa_cons (pv 5) pa_nil)) pe_int) pa_nil)))))
              pss_nil)))))
            pss_nil)))
        (pss_one (ps_aug (i := 7) scSp.nd rfl (Or.inl rfl) pe_int ip_add)))))
      (pss_one (ps_ret (pe_tup (pa_cons (pv 5) (pa_cons pe_non pa_nil)))))))))), ?_⟩
    -- the first row
    refine ⟨_, rfl, (by show 4 ≤ sizeLine; decide), fun z0 nz0 => ⟨(by show 1 ≤ sizeLine; decide), fun l nl => ?_⟩⟩
    have s1 := Same.upd (o := .tup [v0, .int 0, .non, .non]) nz0
    have s2 := Same.upd (o := .lst [.ref z0]) nl
    have nl0 : H l = none := sm0 s1 nl
    have hl1 : upd (upd H z0 (.tup [v0, .int 0, .non, .non])) l (.lst [.ref z0]) l = some (.lst [.ref z0]) := upd_same
    have hz1 : upd (upd H z0 (.tup [v0, .int 0, .non, .non])) l (.lst [.ref z0]) z0 = some (.tup [v0, .int 0, .non, .non]) := s2 _ _ upd_same
    have s01 := s1.trans s2
    generalize upd (upd H z0 (.tup [v0, .int 0, .non, .non])) l (.lst [.ref z0]) = H1 at s01 hl1 hz1 ⊢
    have rw1 : RwL H1 [.ref z0] [(v0, 0, none, .non)] := .cons ⟨z0, rfl, hz1⟩ .nil
    refine ⟨fg, rfl, (cG.keep s01).fn, _, rfl, spSought B us, cG.keep s01, v0, rfl, h0, fun H2 s12 => ⟨_, rfl, ?_⟩⟩
    have s02 := s01.trans s12
    cases hg : B.goal (B.key v0) with
    | true =>
      unfold bfs at out
      rw [if_pos hg] at out
      refine iteT ⟨_, rfl, (by show 2 ≤ sizeLine; decide), fun z nz => ?_⟩
      have s3 := Same.upd (o := .tup [.ref l, .int 0]) nz
      exact out z l _ _ (s02.trans s3) upd_same (s3 _ _ (s12 _ _ hl1)) ((rw1.keep fun b ys => s12 _ _).keep fun b ys => s3 _ _)
    | false =>
      unfold bfs at out
      rw [if_neg (by rw [hg]; decide)] at out
      refine iteF ?_
      refine DX.one (x := .bl true) rfl ((uv.keep s02).nd v0 h0) fun d H3 s23 nd3 dx3 => ?_
      have s03 := s02.trans s23
      have ld : l ≠ d := fun z => by rw [← z, s12 _ _ hl1] at nd3; cases nd3
      have sp0 : SpI kd P w H H3 us B l d [(v0, 0, none, .non)] := by
        refine ⟨s03, ⟨Nat.le_refl _, uv.m1, fun r hr => ?_, fun r hr => ?_, fun r hr => ?_⟩, ⟨_, (s12.trans s23) _ _ hl1, (rw1.keep fun b ys => s12 _ _).keep fun b ys => s23 _ _⟩, ⟨_, dx3, ⟨fun n => ?_, rfl⟩⟩, nl0, sm0 s02 nd3, ld⟩
        · rw [List.mem_singleton.mp hr]; exact h0
        · rw [List.mem_singleton.mp hr]; exact Nat.zero_le _
        · rw [List.mem_singleton.mp hr]; exact .inl rfl
        · unfold valV
          by_cases e : B.key v0 = n
          · simp [e]
          · simp [e]
      have uvk : ∀ {H'}, Same H H' → Uv kd H' us B := fun s => uv.keep s
      let W : Nat → L2.St → Hp → Prop := fun m σ' H' => ∃ (rows : List Rw) (p : Nat) (v8 v9 v10 : Option V), σ' = [some v0, some (.ref fs), some (.ref fg), some (.int ((B.deep : Nat) : Int)), some (.int ((B.most : Nat) : Int)), some (.ref l), some (.ref d), some (.int ((p : Nat) : Int)), v8, v9, v10] ∧ m = B.most + 1 - p ∧ p ≤ rows.length ∧ SpI kd P w H H' us B l d rows ∧ outer B (B.most + 1 - p) rows p = outer B (B.most + 1) [(v0, 0, none, .non)] 0
      refine ⟨W, ⟨_, [(v0, 0, none, .non)], 0, none, none, none, rfl, rfl, Nat.zero_le _, sp0, rfl⟩, ?_⟩
      rintro m σ' H4 ⟨rows, p, v8, v9, v10, rfl, rfl, pl, sp, eq⟩
      obtain ⟨vs, hl4, rw4⟩ := sp.ls
      have vl := K61.RwL.len rw4
      have lm := sp.ri.lm
      -- behind the loop
      have fin : outer B (B.most + 1 - p) rows p = .none rows → ∀ z, H4 z = none → Q (.ref z) (upd H4 z (.tup [.ref l, .non])) := fun e z nz => by
        have e2 := eq.symm.trans e
        rw [e2] at out
        have s5 := Same.upd (o := .tup [.ref l, .non]) nz
        exact out z l vs _ (sp.sm.trans s5) upd_same (s5 _ _ hl4) (rw4.keep fun b ys => s5 _ _)
      have fu : B.most + 1 - p = (B.most - p) + 1 := by omega
      refine ⟨_, rfl, _, rfl, l, vs, rfl, .inl (SqL.of hl4), _, _, rfl, rfl, _, rfl, ?_⟩
      by_cases pr : p < rows.length
      rotate_left
      · have e0 : decide (((p : Nat) : Int) < ((vs.length : Nat) : Int)) = false := decide_eq_false (by omega)
        rw [e0]
        refine iteF (iteF ?_)
        exact ⟨_, rfl, (by show 2 ≤ sizeLine; decide), fun z nz => fin (by rw [fu]; exact outer_end (by omega)) z nz⟩
      have e0 : decide (((p : Nat) : Int) < ((vs.length : Nat) : Int)) = true := decide_eq_true (by omega)
      rw [e0]
      refine iteT ?_
      obtain ⟨r, hr4⟩ : ∃ r, rows[p]? = some r := ⟨_, List.getElem?_eq_getElem pr⟩
      obtain ⟨_, hv4, ra, rfl, hra⟩ := paired_at rw4 hr4
      have rm : r ∈ rows := List.mem_of_getElem? hr4
      refine ⟨_, rfl, _, rfl, l, _, (p : Int), .ref ra, rfl, rfl, SqL.of hl4, atI_nat hv4, ra, _, 1, .int ((r.2.1 : Nat) : Int), rfl, rfl, SqT.of hra, rfl, _, rfl, _, _, rfl, rfl, _, rfl, ?_⟩
      have step := outer_at (B := B) (n := B.most - p) hr4
      rw [← fu] at step
      by_cases dd : r.2.1 < B.deep
      rotate_left
      · have e1 : decide (((r.2.1 : Nat) : Int) < ((B.deep : Nat) : Int)) = false := decide_eq_false (by omega)
        rw [e1]
        refine iteF ?_
        exact ⟨_, rfl, (by show 2 ≤ sizeLine; decide), fun z nz => fin (by rw [step, if_neg dd]) z nz⟩
      have e1 : decide (((r.2.1 : Nat) : Int) < ((B.deep : Nat) : Int)) = true := decide_eq_true (by omega)
      rw [e1]
      rw [if_pos dd, eq] at step
      refine iteT ⟨W (B.most + 1 - (p + 1)), fun σ'' H'' h => ⟨_, by omega, h⟩, ?_⟩
      refine ⟨_, rfl, _, rfl, l, _, (p : Int), .ref ra, rfl, rfl, SqL.of hl4, atI_nat hv4, ?_⟩
      refine ⟨fs, rfl, (cS.keep sp.sm).fn, ra, _, _, rfl, SqT.of hra, rfl, spSteps B us, cS.keep sp.sm, r.1, rfl, sp.ri.us r rm, fun q es H5 s45 nq hq ed5 => ?_⟩
      generalize exs : B.E (B.key r.1) = xs at step ed5
      have xl : es.length = xs.length := Paired.length ed5
      have lq : q ≠ l := fun z => by rw [z, hl4] at nq; cases nq
      have dq : q ≠ d := fun z => by
        obtain ⟨kvs, dx, _⟩ := sp.dx
        obtain ⟨o, ho, _⟩ := dx.there
        rw [z, ho] at nq; cases nq
      refine ⟨q, rfl, ⟨es, SqL.of hq⟩, ?_⟩
      refine for_list (xs := es) (fun i σ' H' => ∃ (rs : List Rw) (v9 v10 : Option V), σ' = [some v0, some (.ref fs), some (.ref fg), some (.int ((B.deep : Nat) : Int)), some (.int ((B.most : Nat) : Int)), some (.ref l), some (.ref d), some (.int ((p : Nat) : Int)), some (.ref ra), v9, v10] ∧ rows.length ≤ rs.length ∧ SpI kd P w H H' us B l d rs ∧ H' q = some (.lst es) ∧ EdL H' es xs ∧ H' ra = some (.tup [r.1, .int ((r.2.1 : Nat) : Int), parV r.2.2.1, r.2.2.2]) ∧ inner B p r.2.1 rs (xs.drop i) = inner B p r.2.1 rows xs)
        ⟨rows, v9, v10, rfl, Nat.le_refl _, sp.keep s45, hq, ed5, s45 _ _ hra, rfl⟩ ?_ ?_ ?_
      · rintro i σ' H' _ ⟨rs, _, _, _, _, _, hq', _⟩
        exact SqL.of hq'
      rotate_left
      · rintro σ' H6 ⟨rs, u9, u10, rfl, rl, sp6, hq6, ed6, hra6, ie⟩
        rw [xl, List.drop_length] at ie
        have ie' : inner B p r.2.1 rows xs = .inl rs := ie.symm
        rw [ie'] at step
        refine ⟨_, rfl, _, _, rfl, rfl, rs, p + 1, _, _, _, rfl, rfl, by omega, sp6, ?_⟩
        rw [step]
        show outer B (B.most + 1 - (p + 1)) rs (p + 1) = outer B (B.most - p) rs (p + 1)
        congr 1
        omega
      rintro i x σ' H6 hx ⟨rs, u9, u10, rfl, rl, sp6, hq6, ed6, hra6, ie⟩
      obtain ⟨y, hy⟩ : ∃ y, xs[i]? = some y := ⟨_, List.getElem?_eq_getElem (by have := (List.getElem?_eq_some_iff.mp hx).1; omega)⟩
      obtain ⟨_, hx', er, rfl, her⟩ := paired_at ed6 hy
      rw [hx] at hx'
      cases hx'
      rw [drop_cons' hy] at ie
      obtain ⟨nu, sfd⟩ := uv.ed r.1 (sp.ri.us r rm) y (by rw [exs]; exact List.mem_of_getElem? hy)
      have uv6 := uv.keep sp6.sm
      have nd6 := uv6.nd y.2 nu
      refine ⟨er, _, rfl, SqT.of her, rfl, _, _, rfl, _, _, rfl, rfl, ?_⟩
      obtain ⟨kvs, dx6, la6⟩ := sp6.dx
      refine ⟨_, rfl, _, rfl, d, _, rfl, dx6.get nd6, _, rfl, ?_⟩
      rw [inner_cons] at ie
      rw [← la6.mem] at ie
      cases hv : (valV kvs (B.key y.2)).isSome with
      | true =>
        rw [hv, if_pos rfl] at ie
        exact iteF ⟨rs, _, _, rfl, rl, sp6, hq6, ed6, hra6, ie⟩
      | false =>
        rw [hv, if_neg (by decide)] at ie
        refine iteT ?_
        obtain ⟨vs6, hl6, rw6⟩ := sp6.ls
        have vl6 := K61.RwL.len rw6
        refine ⟨_, rfl, l, vs6, rfl, .inl (SqL.of hl6), _, rfl, _, _, rfl, rfl, _, rfl, ?_⟩
        by_cases mm : B.most ≤ rs.length
        · have e2 : decide (((vs6.length : Nat) : Int) ≥ ((B.most : Nat) : Int)) = true := decide_eq_true (by omega)
          rw [e2]
          rw [if_pos mm] at ie
          rw [← ie] at step
          rw [step] at out
          have m2 := uv.m2
          exact iteT ⟨_, rfl, raiseM (by omega) (BadM.mono out sp6.sm)⟩
        · have e2 : decide (((vs6.length : Nat) : Int) ≥ ((B.most : Nat) : Int)) = false := decide_eq_false (by omega)
          rw [e2]
          rw [if_neg mm] at ie
          refine iteF ?_
          have m2 := uv.m2
          refine ⟨_, rfl, _, rfl, d, rfl, dx6.put nd6 (size2001 (by have := la6.len; omega)) fun o dx7 => ?_⟩
          obtain ⟨od, hod, nt, nls, _, _⟩ := dx6.there
          have td : ∀ b ys, H6 b = some (.tup ys) → b ≠ d := fun b ys e z => by rw [z, hod] at e; cases e; exact nt _ rfl
          have hra7 : upd H6 d o ra = some (.tup [r.1, .int ((r.2.1 : Nat) : Int), parV r.2.2.1, r.2.2.2]) := by rw [upd_ne (td _ _ hra6)]; exact hra6
          have hl7 : upd H6 d o l = some (.lst vs6) := by rw [upd_ne sp6.ld]; exact hl6
          refine ⟨_, rfl, .inl ⟨rfl, _, SqL.of hl7⟩, _, rfl, ra, _, _, rfl, SqT.of hra7, rfl, _, _, rfl, rfl, _, rfl, _, rfl, (by show 4 ≤ sizeLine; decide), fun z nz => ?_⟩
          have s78 := Same.upd (o := .tup [y.2, .int (((r.2.1 : Nat) : Int) + 1), .int ((p : Nat) : Int), y.1]) nz
          have hz8 : upd (upd H6 d o) z (.tup [y.2, .int (((r.2.1 : Nat) : Int) + 1), .int ((p : Nat) : Int), y.1]) z = some (.tup [y.2, .int (((r.2.1 : Nat) : Int) + 1), .int ((p : Nat) : Int), y.1]) := upd_same
          generalize upd (upd H6 d o) z (.tup [y.2, .int (((r.2.1 : Nat) : Int) + 1), .int ((p : Nat) : Int), y.1]) = H8 at s78 hz8 ⊢
          obtain ⟨hl8, sp9⟩ := sp6.add (r := (y.2, r.2.1 + 1, some p, y.1)) (a := z) hl6 rw6 la6 hv dx7 s78 hz8 (by omega) nu dd sfd td
          refine ⟨l, vs6, .ref z, rfl, rfl, hl8, size2001 (by omega), ?_⟩
          have up9 : ∀ b u, H6 b = some u → b ≠ d → b ≠ l → upd H8 l (.lst (vs6 ++ [.ref z])) b = some u := fun b u e n1 n2 => by
            rw [upd_ne n2]
            exact s78 _ _ (by rw [upd_ne n1]; exact e)
          have q9 := up9 q _ hq6 dq lq
          have t9 : ∀ b ys, H6 b = some (.tup ys) → upd H8 l (.lst (vs6 ++ [.ref z])) b = some (.tup ys) := fun b ys e => up9 b _ e (td b ys e) fun z => by rw [z, hl6] at e; cases e
          have ra9 := t9 _ _ hra6
          have ed9 := ed6.keep t9
          generalize upd H8 l (.lst (vs6 ++ [.ref z])) = H9 at sp9 q9 ra9 ed9 ⊢
          refine ⟨fg, rfl, (cG.keep sp9.sm).fn, _, rfl, spSought B us, cG.keep sp9.sm, y.2, rfl, nu, fun H10 s10 => ⟨_, rfl, ?_⟩⟩
          cases hgy : B.goal (B.key y.2) with
          | true =>
            rw [hgy, if_pos rfl] at ie
            rw [← ie] at step
            rw [step] at out
            obtain ⟨vs9, hl9, rw9⟩ := (sp9.keep s10).ls
            refine iteT ⟨_, rfl, _, rfl, l, vs9, rfl, .inl (SqL.of hl9), _, _, rfl, rfl, (by show 2 ≤ sizeLine; decide), fun zz nzz => ?_⟩
            rw [K61.RwL.len rw9]
            have s11 := Same.upd (o := .tup [.ref l, .int ((((rs ++ [(y.2, r.2.1 + 1, some p, y.1)]).length : Nat) : Int) - 1)]) nzz
            exact out zz l vs9 _ ((sp9.keep s10).sm.trans s11) upd_same (s11 _ _ hl9) (rw9.keep fun b ys => s11 _ _)
          | false =>
            rw [hgy, if_neg (by decide)] at ie
            exact iteF ⟨_, _, _, rfl, by rw [List.length_append]; omega, sp9.keep s10, s10 _ _ q9, ed9.keep fun b ys => s10 _ _, s10 _ _ ra9, ie⟩
end
end K61

namespace K61
open PySem PySem.Spec PyProof.Rows L2 GM TM BF
/-! ### _law_rows -/
/-- the graph and the goals in the heap -/
structure Gv (kd : Bool) (P : Program) (w : World) (H : Hp) (g gl : Addr) (us : List V) (B : Prm) : Prop where
  dx : ∃ kvs, DX kd P w H g kvs ∧ ∀ v ∈ us, ∃ la es, valV kvs (B.key v) = some (.ref la) ∧ H la = some (.lst es) ∧ EdL H es (B.E (B.key v))
  gs : ∃ gs, H gl = some (.lst gs) ∧ (∀ v ∈ gs, v ∈ us) ∧ ∀ n, B.goal n = gs.any fun x => decide (B.key x = n)
theorem Gv.keep {kd : Bool} {P : Program} {w : World} {H H' : Hp} {g gl : Addr} {us : List V} {B : Prm} (h : Gv kd P w H g gl us B) (s : Same H H') : Gv kd P w H' g gl us B := by
  obtain ⟨kvs, h1, h2⟩ := h.dx
  obtain ⟨gs, h3, h4⟩ := h.gs
  refine ⟨⟨kvs, h1.keep (fun o => s _ _) fun b ys => s _ _, fun v hv => ?_⟩, gs, s _ _ h3, h4⟩
  obtain ⟨la, es, q1, q2, q3⟩ := h2 v hv
  exact ⟨la, es, q1, s _ _ q2, q3.keep fun b ys => s _ _⟩
def OutL (H : Hp) (Q : VK) : Res → Prop
  | .found rows => RetR H Q rows (.int ((rows.length : Nat) - 1 : Int))
  | .none rows => RetR H Q rows .non
  | .many => ∀ H', Same H H' → Q .non H'
def spRows (P : Program) (w : World) : Sp := fun vs H Q _ => ∃ v0 g gl kd us B, vs = [v0, .ref g, .ref gl, .int ((B.deep : Nat) : Int), .int ((B.most : Nat) : Int)] ∧ Uv kd H us B ∧ v0 ∈ us ∧ Gv kd P w H g gl us B ∧ OutL H Q (bfs B v0)
/-- v in the goals -/
theorem in_goals {K : PySem.W.Frag} {kd : Bool} {P : Program} {w : World} {H : Hp} {g gl : Addr} {us : List V} {B : Prm} {v : V} {Q : VK} (uv : Uv kd H us B) (gv : Gv kd P w H g gl us B) (hv : v ∈ us) (q : Q (.bl (B.goal (B.key v))) H) : rInG K v (.ref gl) H Q := by
  obtain ⟨gs, h1, h2, h3⟩ := gv.gs
  refine ⟨gl, gs, fun x => decide (B.key x = B.key v), rfl, SqL.of h1, fun u hu => ⟨(uv.nd u (h2 u hu)).sf, (uv.nd u (h2 u hu)).deq (uv.nd v hv)⟩, ?_⟩
  rw [← h3]
  exact q
section
variable {P : Program} {w : World} {K : PySem.W.Frag} {mg : Str → Option Value} {base : Heap}
abbrev Nlr : List Str := ["_law_first", "_law_graph_here", "_law_goals", "_law_deepest", "_law_most", "_law_rows_here", "_law_nodes_here", "_law_at", "_law_deed", "_law_node"]
theorem scLr : FnScope Nlr ["_law_first", "_law_graph_here", "_law_goals", "_law_deepest", "_law_most"] (defScope sRows) := ⟨rfl, rfl, rfl, by decide +kernel, rfl, by decide +kernel, by decide +kernel⟩
theorem ok_rows {f : Addr} {fd : FuncData} (F : Fun K "_law_rows" "_law_rows" sRows f fd) (T : Txt mg) : FnOk P w K mg base CX0 2 f fd ["_law_first", "_law_graph_here", "_law_goals", "_law_deepest", "_law_most"] (spRows P w) := by
  refine F.ok scLr (fun vs H Q E h => ?_) (fun cdv A oo s H vs Q E hr h => ?_)
  · obtain ⟨_, _, _, _, _, _, rfl, _⟩ := h
    rfl
  · obtain ⟨v0, g, gl, kd, us, B, rfl, uv, h0, gv, out⟩ := h
    refine ⟨_, (pss_cons (ps_set (i := 5) scLr.nd rfl (Or.inl rfl) (pe_lst (pa_cons (pe_tup (pa_cons (pv 0) (pa_cons pe_int (pa_cons pe_non (pa_cons pe_non pa_nil))))) pa_nil)))
      (pss_cons (ps_set (i := 6) scLr.nd rfl (Or.inl rfl) (pe_disp1X (Nat.lt_of_le_of_lt (Nat.add_le_add_left (by decide : 1 ≤ 64) _) hr.units) (pv 0) pe_bl))
      (pss_cons (ps_set (i := 7) scLr.nd rfl (Or.inl rfl) pe_int)
      (pss_cons (ps_if (pt_cmpR (op_inG hr.units) (pv 0) (pv 2) rfl)
        (pss_one (ps_ret (pe_tup (pa_cons (pv 5) (pa_cons pe_int pa_nil)))))
        pss_nil)
      (pss_cons (ps_while PassesOwn.never (pt_cmpR op_lt (pv 7) (pe_callB call_len_seq rfl T.len PySem.boot_len (pa_cons (pv 5) pa_nil)) (nomark _))
        (pss_cons (ps_if (pt_cmpR op_eq (pe_ix ix_tup (pe_ix ix_list (pv 5) (pv 7) (fun _ _ => rfl)) pe_int (fun _ _ => rfl)) (pv 3) (nomark _))
          (pss_one (ps_ret (pe_tup (pa_cons (pv 5) (pa_cons pe_non pa_nil)))))
          pss_nil)
        (pss_cons (ps_for PassesOwn.never rfl (pi_list (pe_dgetX (Nat.lt_of_le_of_lt (Nat.add_le_add_left (by decide : 2 ≤ 64) _) hr.units) (pv 1) (pe_ix ix_tup (pe_ix ix_list (pv 5) (pv 7) (fun _ _ => rfl)) pe_int (fun _ _ => rfl)) (fun _ _ => rfl))) (pg_tup rfl (pgs_cons (pg_name (i := 8) scLr.nd rfl (Or.inl rfl)) (pgs_cons (pg_name (i := 9) scLr.nd rfl (Or.inl rfl)) pgs_nil)))
          (pss_one (ps_if (pt_cmp (pc_dnotinX (Nat.lt_of_le_of_lt (Nat.add_le_add_left (by decide : 2 ≤ 64) _) hr.units) (pv 9) (pv 6)))
            (pss_cons (ps_if (pt_cmpR op_eq (pe_callB call_len_seq rfl T.len PySem.boot_len (pa_cons (pv 5) pa_nil)) (pv 4) (nomark _))
              (pss_one (ps_ret pe_non))
              pss_nil)
            (pss_cons (ps_dputX (Nat.lt_of_le_of_lt (Nat.add_le_add_left (by decide : 2 ≤ 64) _) hr.units) (pv 6) (pv 9) pe_bl rfl)
            (pss_cons (ps_expr (pe_bm PySem.F.plainAttrs_list PySem.F.slot_list_append PySem.F.type_list_append mt_append (pv 5) (pa_cons (pe_tup (pa_cons (pv 9) (pa_cons (pe_op op_add (pe_ix ix_tup (pe_ix ix_list (pv 5) (pv 7) (fun _ _ => rfl)) pe_int (fun _ _ => rfl)) pe_int) (pa_cons (pv 7) (pa_cons (pv 8) pa_nil))))) pa_nil)))
            (pss_one (ps_if (pt_cmpR (op_inG hr.units) (pv 9) (pv 2) rfl)
              (pss_one (ps_ret (pe_tup (pa_cons (pv 5) (pa_cons (pe_op op_sub (pe_callB call_len_seq rfl T.len PySem.boot_len (pa_cons (pv 5) pa_nil)) pe_int) pa_nil)))))
              pss_nil)))))
            pss_nil)))
        (pss_one (ps_set (i := 7) scLr.nd rfl (Or.inl rfl) (pe_op op_add (pv 7) pe_int))))))
      (pss_one (ps_ret (pe_tup (pa_cons (pv 5) (pa_cons pe_non pa_nil)))))))))), ?_⟩
    -- the first row
    refine ⟨_, rfl, (by show 4 ≤ sizeLine; decide), fun z0 nz0 => ⟨(by show 1 ≤ sizeLine; decide), fun l nl => ?_⟩⟩
    have s1 := Same.upd (o := .tup [v0, .int 0, .non, .non]) nz0
    have s2 := Same.upd (o := .lst [.ref z0]) nl
    have nl0 : H l = none := sm0 s1 nl
    have hl1 : upd (upd H z0 (.tup [v0, .int 0, .non, .non])) l (.lst [.ref z0]) l = some (.lst [.ref z0]) := upd_same
    have hz1 : upd (upd H z0 (.tup [v0, .int 0, .non, .non])) l (.lst [.ref z0]) z0 = some (.tup [v0, .int 0, .non, .non]) := s2 _ _ upd_same
    have s02 := s1.trans s2
    generalize upd (upd H z0 (.tup [v0, .int 0, .non, .non])) l (.lst [.ref z0]) = H2 at s02 hl1 hz1 ⊢
    have rw1 : RwL H2 [.ref z0] [(v0, 0, none, .non)] := .cons ⟨z0, rfl, hz1⟩ .nil
    refine DX.one (x := .bl true) rfl ((uv.keep s02).nd v0 h0) fun d H3 s23 nd3 dx3 => ?_
    have s03 := s02.trans s23
    have ld : l ≠ d := fun z => by rw [← z, hl1] at nd3; cases nd3
    have sp0 : SpI kd P w H H3 us B l d [(v0, 0, none, .non)] := by
      refine ⟨s03, ⟨Nat.le_refl _, uv.m1, fun r hr => ?_, fun r hr => ?_, fun r hr => ?_⟩, ⟨_, s23 _ _ hl1, rw1.keep fun b ys => s23 _ _⟩, ⟨_, dx3, ⟨fun n => ?_, rfl⟩⟩, nl0, sm0 s02 nd3, ld⟩
      · rw [List.mem_singleton.mp hr]; exact h0
      · rw [List.mem_singleton.mp hr]; exact Nat.zero_le _
      · rw [List.mem_singleton.mp hr]; exact .inl rfl
      · unfold valV
        by_cases e : B.key v0 = n
        · simp [e]
        · simp [e]
    refine ⟨_, rfl, _, rfl, in_goals (uv.keep s03) (gv.keep s03) h0 ⟨_, rfl, ?_⟩⟩
    unfold bfs at out
    cases hg : B.goal (B.key v0) with
    | true =>
      rw [if_pos hg] at out
      refine iteT ⟨_, rfl, (by show 2 ≤ sizeLine; decide), fun z nz => ?_⟩
      have s3 := Same.upd (o := .tup [.ref l, .int 0]) nz
      exact out z l _ _ (s03.trans s3) upd_same (s3 _ _ (s23 _ _ hl1)) ((rw1.keep fun b ys => s23 _ _).keep fun b ys => s3 _ _)
    | false =>
      rw [if_neg (by rw [hg]; decide)] at out
      refine iteF ?_
      let W : Nat → L2.St → Hp → Prop := fun m σ' H' => ∃ (rows : List Rw) (p : Nat) (v8 v9 : Option V), σ' = [some v0, some (.ref g), some (.ref gl), some (.int ((B.deep : Nat) : Int)), some (.int ((B.most : Nat) : Int)), some (.ref l), some (.ref d), some (.int ((p : Nat) : Int)), v8, v9] ∧ m = B.most + 1 - p ∧ p ≤ rows.length ∧ SpI kd P w H H' us B l d rows ∧ outer B (B.most + 1 - p) rows p = outer B (B.most + 1) [(v0, 0, none, .non)] 0
      refine ⟨W, ⟨_, [(v0, 0, none, .non)], 0, none, none, rfl, rfl, Nat.zero_le _, sp0, rfl⟩, ?_⟩
      rintro m σ' H4 ⟨rows, p, v8, v9, rfl, rfl, pl, sp, eq⟩
      obtain ⟨vs, hl4, rw4⟩ := sp.ls
      have vl := K61.RwL.len rw4
      have lm := sp.ri.lm
      have fin : outer B (B.most + 1 - p) rows p = .none rows → ∀ z, H4 z = none → Q (.ref z) (upd H4 z (.tup [.ref l, .non])) := fun e z nz => by
        have e2 := eq.symm.trans e
        rw [e2] at out
        have s5 := Same.upd (o := .tup [.ref l, .non]) nz
        exact out z l vs _ (sp.sm.trans s5) upd_same (s5 _ _ hl4) (rw4.keep fun b ys => s5 _ _)
      have fu : B.most + 1 - p = (B.most - p) + 1 := by omega
      refine ⟨_, rfl, _, rfl, l, vs, rfl, .inl (SqL.of hl4), _, _, rfl, rfl, _, rfl, ?_⟩
      by_cases pr : p < rows.length
      rotate_left
      · have e0 : decide (((p : Nat) : Int) < ((vs.length : Nat) : Int)) = false := decide_eq_false (by omega)
        rw [e0]
        refine iteF ?_
        exact ⟨_, rfl, (by show 2 ≤ sizeLine; decide), fun z nz => fin (by rw [fu]; exact outer_end (by omega)) z nz⟩
      have e0 : decide (((p : Nat) : Int) < ((vs.length : Nat) : Int)) = true := decide_eq_true (by omega)
      rw [e0]
      obtain ⟨r, hr4⟩ : ∃ r, rows[p]? = some r := ⟨_, List.getElem?_eq_getElem pr⟩
      obtain ⟨_, hv4, ra, rfl, hra⟩ := paired_at rw4 hr4
      have rm : r ∈ rows := List.mem_of_getElem? hr4
      have rdp := sp.ri.dp r rm
      have step := outer_at (B := B) (n := B.most - p) hr4
      rw [← fu] at step
      refine iteT ⟨W (B.most + 1 - (p + 1)), fun σ'' H'' h => ⟨_, by omega, h⟩, ?_⟩
      refine ⟨_, rfl, _, rfl, l, _, (p : Int), .ref ra, rfl, rfl, SqL.of hl4, atI_nat hv4, ra, _, 1, .int ((r.2.1 : Nat) : Int), rfl, rfl, SqT.of hra, rfl, _, rfl, rfl, _, rfl, ?_⟩
      by_cases dd : r.2.1 < B.deep
      rotate_left
      · have e1 : r.2.1 = B.deep := by omega
        refine ite2 (fun _ => ?_) (fun h => absurd (decide_eq_true (by rw [e1])) h)
        exact ⟨_, rfl, (by show 2 ≤ sizeLine; decide), fun z nz => fin (by rw [step, if_neg dd]) z nz⟩
      rw [if_pos dd, eq] at step
      refine ite2 (fun h => absurd (of_decide_eq_true h) (fun z => by injection z with z; omega)) (fun _ => ?_)
      obtain ⟨kvg, dxg0, hed⟩ := gv.dx
      have dxg := dxg0.keep (H' := H4) (fun o => sp.sm _ _) fun b ys => sp.sm _ _
      obtain ⟨q, es, vq, hq0, ed0⟩ := hed r.1 (sp.ri.us r rm)
      have hq := sp.sm _ _ hq0
      have uv4 := uv.keep sp.sm
      refine ⟨_, rfl, _, rfl, _, rfl, l, _, (p : Int), .ref ra, rfl, rfl, SqL.of hl4, atI_nat hv4, ra, _, 0, r.1, rfl, rfl, SqT.of hra, rfl, g, .ref q, rfl, by rw [← vq]; exact dxg.get (uv4.nd r.1 (sp.ri.us r rm)), ?_⟩
      generalize exs : B.E (B.key r.1) = xs at step ed0
      have xl : es.length = xs.length := Paired.length ed0
      refine ⟨q, rfl, ⟨es, SqL.of hq⟩, ?_⟩
      have q0 : H q = some (.lst es) ∧ EdL H es xs := ⟨hq0, ed0⟩
      refine for_list (xs := es) (fun i σ' H' => ∃ (rs : List Rw) (v8 v9 : Option V), σ' = [some v0, some (.ref g), some (.ref gl), some (.int ((B.deep : Nat) : Int)), some (.int ((B.most : Nat) : Int)), some (.ref l), some (.ref d), some (.int ((p : Nat) : Int)), v8, v9] ∧ rows.length ≤ rs.length ∧ SpI kd P w H H' us B l d rs ∧ rs[p]? = some r ∧ inner B p r.2.1 rs (xs.drop i) = inner B p r.2.1 rows xs)
        ⟨rows, v8, v9, rfl, Nat.le_refl _, sp, hr4, rfl⟩ ?_ ?_ ?_
      · rintro i σ' H' _ ⟨rs, _, _, _, _, sp', _⟩
        exact SqL.of (sp'.sm _ _ q0.1)
      rotate_left
      · rintro σ' H6 ⟨rs, u8, u9, rfl, rl, sp6, _, ie⟩
        rw [xl, List.drop_length] at ie
        have ie' : inner B p r.2.1 rows xs = .inl rs := ie.symm
        rw [ie'] at step
        refine ⟨_, rfl, _, _, rfl, rfl, rs, p + 1, _, _, rfl, rfl, by omega, sp6, ?_⟩
        rw [step]
        show outer B (B.most + 1 - (p + 1)) rs (p + 1) = outer B (B.most - p) rs (p + 1)
        congr 1
        omega
      rintro i x σ' H6 hx ⟨rs, u8, u9, rfl, rl, sp6, hrp, ie⟩
      obtain ⟨y, hy⟩ : ∃ y, xs[i]? = some y := ⟨_, List.getElem?_eq_getElem (by have := (List.getElem?_eq_some_iff.mp hx).1; omega)⟩
      obtain ⟨_, hx', er, rfl, her⟩ := paired_at (q0.2.keep fun b ys => sp6.sm _ _) hy
      rw [hx] at hx'
      cases hx'
      rw [drop_cons' hy] at ie
      obtain ⟨nu, sfd⟩ := uv.ed r.1 (sp.ri.us r rm) y (by rw [exs]; exact List.mem_of_getElem? hy)
      have uv6 := uv.keep sp6.sm
      have nd6 := uv6.nd y.2 nu
      refine ⟨er, _, rfl, SqT.of her, rfl, _, _, rfl, _, _, rfl, rfl, ?_⟩
      obtain ⟨kvs, dx6, la6⟩ := sp6.dx
      refine ⟨_, rfl, _, rfl, d, _, rfl, dx6.get nd6, _, rfl, ?_⟩
      rw [inner_cons] at ie
      rw [← la6.mem] at ie
      cases hv : (valV kvs (B.key y.2)).isSome with
      | true =>
        rw [hv, if_pos rfl] at ie
        exact iteF ⟨rs, _, _, rfl, rl, sp6, hrp, ie⟩
      | false =>
        rw [hv, if_neg (by decide)] at ie
        refine iteT ?_
        obtain ⟨vs6, hl6, rw6⟩ := sp6.ls
        have vl6 := K61.RwL.len rw6
        have lm6 := sp6.ri.lm
        refine ⟨_, rfl, l, vs6, rfl, .inl (SqL.of hl6), _, rfl, rfl, _, rfl, ?_⟩
        by_cases mm : B.most ≤ rs.length
        · rw [if_pos mm] at ie
          rw [← ie] at step
          rw [step] at out
          exact ite2 (fun _ => out _ sp6.sm) (fun h => absurd (decide_eq_true (by rw [show vs6.length = B.most by omega])) h)
        · rw [if_neg mm] at ie
          refine ite2 (fun h => absurd (of_decide_eq_true h) (fun z => by injection z with z; omega)) (fun _ => ?_)
          have m2 := uv.m2
          refine ⟨_, rfl, _, rfl, d, rfl, dx6.put nd6 (size2001 (by have := la6.len; omega)) fun o dx7 => ?_⟩
          obtain ⟨od, hod, nt, nls, _, _⟩ := dx6.there
          have td : ∀ b ys, H6 b = some (.tup ys) → b ≠ d := fun b ys e z => by rw [z, hod] at e; cases e; exact nt _ rfl
          obtain ⟨_, hv6, ra6, rfl, hra6⟩ := paired_at rw6 hrp
          have hra7 : upd H6 d o ra6 = some (.tup [r.1, .int ((r.2.1 : Nat) : Int), parV r.2.2.1, r.2.2.2]) := by rw [upd_ne (td _ _ hra6)]; exact hra6
          have hl7 : upd H6 d o l = some (.lst vs6) := by rw [upd_ne sp6.ld]; exact hl6
          refine ⟨_, rfl, .inl ⟨rfl, _, SqL.of hl7⟩, _, rfl, _, rfl, _, rfl, l, _, (p : Int), .ref ra6, rfl, rfl, SqL.of hl7, atI_nat hv6, ra6, _, 1, .int ((r.2.1 : Nat) : Int), rfl, rfl, SqT.of hra7, rfl, _, _, rfl, rfl, _, rfl, _, rfl, (by show 4 ≤ sizeLine; decide), fun z nz => ?_⟩
          have s78 := Same.upd (o := .tup [y.2, .int (((r.2.1 : Nat) : Int) + 1), .int ((p : Nat) : Int), y.1]) nz
          have hz8 : upd (upd H6 d o) z (.tup [y.2, .int (((r.2.1 : Nat) : Int) + 1), .int ((p : Nat) : Int), y.1]) z = some (.tup [y.2, .int (((r.2.1 : Nat) : Int) + 1), .int ((p : Nat) : Int), y.1]) := upd_same
          generalize upd (upd H6 d o) z (.tup [y.2, .int (((r.2.1 : Nat) : Int) + 1), .int ((p : Nat) : Int), y.1]) = H8 at s78 hz8 ⊢
          obtain ⟨hl8, sp9⟩ := sp6.add (r := (y.2, r.2.1 + 1, some p, y.1)) (a := z) hl6 rw6 la6 hv dx7 s78 hz8 (by omega) nu dd sfd td
          refine ⟨l, vs6, .ref z, rfl, rfl, hl8, size2001 (by omega), ?_⟩
          generalize upd H8 l (.lst (vs6 ++ [.ref z])) = H9 at sp9 ⊢
          refine ⟨_, rfl, _, rfl, in_goals (uv.keep sp9.sm) (gv.keep sp9.sm) nu ⟨_, rfl, ?_⟩⟩
          have hrp9 : (rs ++ [(y.2, r.2.1 + 1, some p, y.1)])[p]? = some r := by rw [List.getElem?_append_left (by have := (List.getElem?_eq_some_iff.mp hrp).1; exact this)]; exact hrp
          cases hgy : B.goal (B.key y.2) with
          | true =>
            rw [hgy, if_pos rfl] at ie
            rw [← ie] at step
            rw [step] at out
            obtain ⟨vs9, hl9, rw9⟩ := sp9.ls
            refine iteT ⟨_, rfl, _, rfl, l, vs9, rfl, .inl (SqL.of hl9), _, _, rfl, rfl, (by show 2 ≤ sizeLine; decide), fun zz nzz => ?_⟩
            rw [K61.RwL.len rw9]
            have s11 := Same.upd (o := .tup [.ref l, .int ((((rs ++ [(y.2, r.2.1 + 1, some p, y.1)]).length : Nat) : Int) - 1)]) nzz
            exact out zz l vs9 _ (sp9.sm.trans s11) upd_same (s11 _ _ hl9) (rw9.keep fun b ys => s11 _ _)
          | false =>
            rw [hgy, if_neg (by decide)] at ie
            exact iteF ⟨_, _, _, rfl, by rw [List.length_append]; omega, sp9, hrp9, ie⟩
end
end K61

namespace K61
open PySem PySem.Spec PyProof.Rows L2 GM TM BF
/-! ### _law_steps_of, _law_sought_of -/
def stmtPos : Stmt → Pos
  | .FunctionDef _ _ _ _ _ _ _ _ _ p => p
  | .Return _ p => p
  | _ => ⟨0, 0, 0, 0⟩
def retName : Stmt → Pos
  | .Return (some (.Name _ p)) _ => p
  | _ => ⟨0, 0, 0, 0⟩
abbrev inS (s : Stmt) (j : Nat) : Stmt := (defBody s).getD j (.Pass ⟨0, 0, 0, 0⟩)
abbrev sSteps : Stmt := inS sStepsOf 0
abbrev sSought : Stmt := inS sSoughtOf 0
abbrev qSteps : Str := "_law_steps_of.<locals>._law_steps"
abbrev qSought : Str := "_law_sought_of.<locals>._law_sought"
theorem bdSteps : defBody sStepsOf = [.FunctionDef "_law_steps" (defArgs sSteps) (defBody sSteps) [] none [] (defScope sSteps) none "_law_steps" (stmtPos sSteps), .Return (some (.Name "_law_steps" (retName (inS sStepsOf 1)))) (stmtPos (inS sStepsOf 1))] := by rfl
theorem bdSought : defBody sSoughtOf = [.FunctionDef "_law_sought" (defArgs sSought) (defBody sSought) [] none [] (defScope sSought) none "_law_sought" (stmtPos sSought), .Return (some (.Name "_law_sought" (retName (inS sSoughtOf 1)))) (stmtPos (inS sSoughtOf 1))] := by rfl
section
variable {P : Program} {w : World} {K : PySem.W.Frag} {mg : Str → Option Value} {base : Heap}
theorem scSo : FnScope ["_law_graph_here", "_law_steps"] ["_law_graph_here"] (defScope sStepsOf) := ⟨rfl, rfl, rfl, by decide +kernel, rfl, by decide +kernel, by decide +kernel⟩
theorem scGo : FnScope ["_law_goals", "_law_sought"] ["_law_goals"] (defScope sSoughtOf) := ⟨rfl, rfl, rfl, by decide +kernel, rfl, by decide +kernel, by decide +kernel⟩
abbrev spStepsOf (T : Addr) : Sp := spMaker T "_law_steps" qSteps "_law_graph_here" (defArgs sSteps) (defBody sSteps) (defScope sSteps) (stmtPos sSteps)
abbrev spSoughtOf (T : Addr) : Sp := spMaker T "_law_sought" qSought "_law_goals" (defArgs sSought) (defBody sSought) (defScope sSought) (stmtPos sSought)
theorem ok_stepsof {f c T : Addr} {fd : FuncData} (F : FunC K "_law_steps_of" "_law_steps_of" sStepsOf f fd c) (B : LamB mg base c T) : FnOk P w K mg base CX0 1 f fd ["_law_graph_here"] (spStepsOf T) :=
  fn_maker F bdSteps scSo rfl rfl B (fun _ => rfl) (fun _ => rfl) (fun _ => rfl) rfl rfl (fun _ => rfl)
theorem ok_soughtof {f c T : Addr} {fd : FuncData} (F : FunC K "_law_sought_of" "_law_sought_of" sSoughtOf f fd c) (B : LamB mg base c T) : FnOk P w K mg base CX0 1 f fd ["_law_goals"] (spSoughtOf T) :=
  fn_maker F bdSought scGo rfl rfl B (fun _ => rfl) (fun _ => rfl) (fun _ => rfl) rfl rfl (fun _ => rfl)
end
/-- what stays when a cell is taken away for a while -/
theorem drop_keep {H : Hp} {c : Addr} {o : Obj} {u : HO} {b : Addr} {x : HO} (hc : H c = some (.frz o u)) (hb : H b = some x) (n : ∀ y z, x ≠ .frz y z) : dropA [c] H b = some x := by
  rw [dropA_out fun m => by
    rw [List.mem_singleton.mp m, hc] at hb
    cases hb
    exact n _ _ rfl]
  exact hb
theorem Gv.drop {kd : Bool} {P : Program} {w : World} {H : Hp} {g gl : Addr} {us : List V} {B : Prm} {c : Addr} {o : Obj} {u : HO} (h : Gv kd P w H g gl us B) (hc : H c = some (.frz o u)) : Gv kd P w (dropA [c] H) g gl us B := by
  obtain ⟨kvs, h1, h2⟩ := h.dx
  obtain ⟨gs, h3, h4⟩ := h.gs
  have tk : ∀ b ys, H b = some (.tup ys) → dropA [c] H b = some (.tup ys) := fun b ys e => drop_keep hc e fun _ _ z => by cases z
  obtain ⟨ob, hob, _, _, nf, _⟩ := h1.there
  refine ⟨⟨kvs, h1.keep (fun o' e => drop_keep hc e (by rw [hob] at e; cases e; exact nf)) tk, fun v hv => ?_⟩, gs, drop_keep hc h3 fun _ _ z => (by cases z), h4⟩
  obtain ⟨la, es, q1, q2, q3⟩ := h2 v hv
  exact ⟨la, es, q1, drop_keep hc q2 fun _ _ z => (by cases z), q3.keep tk⟩
theorem Uv.drop {kd : Bool} {H : Hp} {us : List V} {B : Prm} {c : Addr} {o : Obj} {u : HO} (h : Uv kd H us B) (hc : H c = some (.frz o u)) : Uv kd (dropA [c] H) us B :=
  ⟨fun v hv => (h.nd v hv).keep fun b ys e => drop_keep hc e fun _ _ z => (by cases z), h.ed, h.m1, h.m2⟩
/-- the heap behind a call -/
theorem same_trk {H H2 : Hp} {c : Addr} {o : Obj} (hc : H c = some (.frz o (.own 0))) (s : Same (dropA [c] H) H2) : Same H (trkA [(c, o)] H2) := fun b x e => by
  by_cases z : b = c
  · subst z
    rw [hc] at e
    cases e
    exact trkA_in (by simp)
  · rw [trkA_out (lk_none (by simpa using z))]
    exact s _ _ (by rw [dropA_out (by simpa using z)]; exact e)
theorem trk_at {H2 : Hp} {c : Addr} {o : Obj} {b : Addr} {x : HO} (n : ∀ d ∈ [(c, o)].map (·.1), H2 d = none) (e : H2 b = some x) : trkA [(c, o)] H2 b = some x := by
  rw [trkA_out (lk_none fun m => by rw [n b m] at e; cases e)]
  exact e
section
variable {P : Program} {w : World} {K : PySem.W.Frag} {mg : Str → Option Value} {base : Heap}
theorem ns1 {x y : Str} {cc : Addr} {scope : Scope} (h1 : scope.kind = .function) (h2 : scope.isCoroutine = false) (h3 : scope.isGenerator = false) (h4 : ∀ z ∈ scope.names, z.2 ≠ .cell) (h5 : scope.names.lookup x = some .local) (h6 : scope.names.lookup y = some .free) (h7 : scope.names.all (fun z => decide (z.2 = .free → z.1 = y)) = true) : NsS x [(y, cc)] scope :=
  ⟨h1, h2, h3, h4, h5, fun z hz => by rw [List.map_cons, List.map_nil, List.mem_singleton] at hz; rw [hz]; exact h6, fun z hz => by
    have := of_decide_eq_true (List.all_eq_true.mp h7 _ (PySem.mem_of_lookup hz)) rfl
    rw [List.map_cons, List.map_nil, List.mem_singleton]; exact this⟩
theorem inj1 {y : Str} {cc : Addr} : ∀ a b c, [(y, cc)].lookup a = some c → [(y, cc)].lookup b = some c → a = b := fun a b c h1 h2 => by
  rw [List.lookup_cons] at h1 h2
  by_cases e1 : a = y
  · by_cases e2 : b = y
    · rw [e1, e2]
    · rw [beq_false_of_ne e2] at h2; cases h2
  · rw [beq_false_of_ne e1] at h1; cases h1
theorem clo_steps {H : Hp} {f cc g gl : Addr} {o : Obj} {kd : Bool} {us : List V} {B : Prm} (T : Txt mg) (F : FnN H f "_law_steps" qSteps (defArgs sSteps) (defBody sSteps) (defScope sSteps) [("_law_graph_here", cc)]) (C : Cells H [("_law_graph_here", cc)] [(cc, o)] [.ref g]) (uv : Uv kd H us B) (gv : Gv kd P w H g gl us B) :
    Clo P w K mg base CX0 2 H f (spSteps B us) := by
  refine clo_of (x := "_law_node") (ns1 rfl rfl rfl (by decide +kernel) rfl rfl (by decide +kernel)) (by show (["_law_node", "_law_graph_here"] : List Str).Nodup; decide +kernel) inj1 F C (fun _ _ _ _ _ => rfl) (fun vs H Q E h => ?_) (fun cd A oo s H' v Q E sm hr h => ?_)
  · obtain ⟨_, rfl, _⟩ := h
    rfl
  · refine ⟨_, (pss_one (ps_ret (pe_callTy call_list_of rfl T.list' bt_list (pa_cons (pe_dgetX (Nat.lt_of_le_of_lt (Nat.add_le_add_left (by decide : 2 ≤ 64) _) hr.units) (pv 1) (pv 0) (fun _ _ => rfl)) pa_nil)))), ?_⟩
    obtain ⟨v', e, hv, k⟩ := h
    cases e
    have hc : H' cc = some (.frz o (.own 0)) := sm _ _ (C.frz cc o (by simp))
    have gv' := (gv.keep sm).drop hc
    have uv' := (uv.keep sm).drop hc
    obtain ⟨kvs, dx, hed⟩ := gv'.dx
    obtain ⟨la, es, vq, hq, ed⟩ := hed v hv
    refine ⟨_, rfl, _, rfl, g, .ref la, rfl, by rw [← vq]; exact dx.get (uv'.nd v hv), la, es, rfl, .inl (SqL.of hq), fun p np nn => ?_⟩
    have s2 := Same.upd (o := .lst es) np
    have up := trk_at nn (upd_same (H := dropA [cc] H') (a := p) (o := .lst es))
    have pc : p ≠ cc := fun z => by
      have := nn cc (by simp)
      rw [← z, upd_same] at this
      cases this
    refine k p es _ (same_trk hc s2) ?_ up (ed.keep fun b ys e => trk_at nn (s2 _ _ e))
    rw [← np]
    exact (dropA_out (by simpa using pc)).symm
theorem clo_sought {H : Hp} {f cc g gl : Addr} {o : Obj} {kd : Bool} {us : List V} {B : Prm} (F : FnN H f "_law_sought" qSought (defArgs sSought) (defBody sSought) (defScope sSought) [("_law_goals", cc)]) (C : Cells H [("_law_goals", cc)] [(cc, o)] [.ref gl]) (uv : Uv kd H us B) (gv : Gv kd P w H g gl us B) :
    Clo P w K mg base CX0 2 H f (spSought B us) := by
  refine clo_of (x := "_law_node") (ns1 rfl rfl rfl (by decide +kernel) rfl rfl (by decide +kernel)) (by show (["_law_node", "_law_goals"] : List Str).Nodup; decide +kernel) inj1 F C (fun _ _ _ _ _ => rfl) (fun vs H Q E h => ?_) (fun cd A oo s H' v Q E sm hr h => ?_)
  · obtain ⟨_, rfl, _⟩ := h
    rfl
  · refine ⟨_, (pss_one (ps_ret (pe_cmpR (op_inG hr.units) (pv 0) (pv 1) rfl))), ?_⟩
    obtain ⟨v', e, hv, k⟩ := h
    cases e
    have hc : H' cc = some (.frz o (.own 0)) := sm _ _ (C.frz cc o (by simp))
    exact ⟨_, rfl, _, rfl, in_goals ((uv.keep sm).drop hc) ((gv.keep sm).drop hc) hv fun nn => k _ (same_trk hc (Same.refl _))⟩
end
end K61

namespace K61
open PySem PySem.Spec PyProof.Rows L2 GM TM BF
/-! ### _law_told, _law_alike -/
/-- all but tables stays -/
def SmN (H H' : Hp) : Prop := ∀ b o, (∀ ps, o ≠ .tbl ps) → H b = some o → H' b = some o
theorem SmN.trans {H H1 H2 : Hp} (a : SmN H H1) (b : SmN H1 H2) : SmN H H2 := fun c o n e => b c o n (a c o n e)
theorem SmN.of {H H1 : Hp} (a : Same H H1) : SmN H H1 := fun c o _ e => a c o e
theorem SmN.ofB {H H1 : Hp} {T : Addr} {q : Str} {p : Pos} (a : SameB T H H1) (l : LamT H T q p) : SmN H H1 := fun c o n e => a c o (fun z => by
  rcases l with h | ⟨_, _, _, _, _, h, _⟩
  · rw [z, h] at e; cases e; exact n _ rfl
  · rw [z, h] at e; cases e; exact n _ rfl) e
theorem SmN.tk {H H1 : Hp} (a : SmN H H1) : ∀ b ys, H b = some (.tup ys) → H1 b = some (.tup ys) := fun b ys e => a b _ (fun _ z => by cases z) e
theorem SmN.ls {H H1 : Hp} (a : SmN H H1) {b : Addr} {ys : List V} (e : H b = some (.lst ys)) : H1 b = some (.lst ys) := a b _ (fun _ z => by cases z) e
theorem SmN.fz {H H1 : Hp} (a : SmN H H1) {b : Addr} {o : Obj} {u : HO} (e : H b = some (.frz o u)) : H1 b = some (.frz o u) := a b _ (fun _ z => by cases z) e
theorem SmN.seq {K : PySem.W.Frag} {H H1 : Hp} {a : Addr} {xs : List V} (s : SmN H H1) (h : SqL K H a xs) : SqL K H1 a xs := by
  rcases h with (h | ⟨o, h⟩) | h
  · exact .inl (.inl (s.ls h))
  · exact .inl (.inr ⟨o, s.fz h⟩)
  · exact .inr h
theorem Uv.n {kd : Bool} {H H' : Hp} {us : List V} {B : Prm} (h : Uv kd H us B) (s : SmN H H') : Uv kd H' us B := ⟨fun v hv => (h.nd v hv).keep s.tk, h.ed, h.m1, h.m2⟩
theorem Gv.n {kd : Bool} {P : Program} {w : World} {H H' : Hp} {g gl : Addr} {us : List V} {B : Prm} (h : Gv kd P w H g gl us B) (s : SmN H H') : Gv kd P w H' g gl us B := by
  obtain ⟨kvs, h1, h2⟩ := h.dx
  obtain ⟨gs, h3, h4⟩ := h.gs
  obtain ⟨ob, hob, _, _, _, nt⟩ := h1.there
  refine ⟨⟨kvs, h1.keep (fun o e => s _ _ (by rw [hob] at e; cases e; exact nt) e) s.tk, fun v hv => ?_⟩, gs, s.ls h3, h4⟩
  obtain ⟨la, es, q1, q2, q3⟩ := h2 v hv
  exact ⟨la, es, q1, s.ls q2, q3.keep s.tk⟩
theorem FnN.n {H H' : Hp} {f : Addr} {name qual : Str} {params : Arguments} {body : List Stmt} {scope : Scope} {cl : List (Str × Addr)} (h : FnN H f name qual params body scope cl) (s : SmN H H') : FnN H' f name qual params body scope cl := by
  obtain ⟨d, p, c, t, h1, h2⟩ := h
  exact ⟨d, p, c, t, s.fz h1, h2.keep fun o u e => s.fz e⟩
theorem Cells.n {H H' : Hp} {cl : List (Str × Addr)} {cs : List (Addr × Obj)} {ws : List V} (h : Cells H cl cs ws) (s : SmN H H') : Cells H' cl cs ws := by
  induction h with
  | nil => exact .nil
  | cons a b c _ ih => exact .cons (s.fz a) b c ih
/-- a table beside: what another table's growing leaves -/
theorem lamT_b {H H' : Hp} {T T2 : Addr} {q q2 : Str} {p p2 : Pos} (l : LamT H T q p) (s : SameB T2 H H') (n : T ≠ T2) (l2 : LamT H T2 q2 p2) : LamT H' T q p := by
  rcases l with h | ⟨c, oc, vs, t, u, h, hc, r⟩
  · exact .inl (s _ _ n h)
  · exact .inr ⟨c, oc, vs, t, u, s _ _ n h, (SmN.ofB s l2).fz hc, r⟩
structure CalD (P : Program) (w : World) (K : PySem.W.Frag) (mg : Str → Option Value) (base : Heap) (CX : CXT) (k : Nat) (x : Str) (ps : List Str) (sp : Sp) (dvs : List V) : Prop where
  ex : ∃ (f : Addr) (fd : FuncData) (ds : List Value), mg x = some (.ref f) ∧ PySem.W.keepIn K (.ref f) = true ∧ L2.Binds K fd ps ds ∧ Vals dvs ds ∧ FnOk P w K mg base CX k f fd ps sp
theorem pe_calD {X : Cx} {CX : CXT} {k : Nat} {x : Str} {ps : List Str} {sp : Sp} {dvs : List V} {E : XK} {e : Expr} {es : List Expr} {t : TA} {p pos : Pos} (C : CalD X.prog X.w X.K X.mg X.base CX k x ps sp dvs) (hr : Room k X.A) (hg : Gl X x) (hx : Passes CX X E)
    (ha : PA X (e :: es) t) (hdb : (x == ("__debug__" : Str)) = false := by decide) (he : starEach (e :: es) X.env = (false, eval e X.env) :: starEach es X.env := by rfl) (hpl : (backTo pos (starEach es X.env)).any (·.1) = false := by rfl) :
    PE X (.Call (.Name x p) (e :: es) [] pos) (tCall sp dvs E t) := by
  obtain ⟨f, fd, ds, hm, hk, hb, r, F⟩ := C.ex
  exact pe_call F hr hg hm hk hb r hx ha hdb he hpl
/-- the tables of the two makers -/
structure Tb (H : Hp) (T1 T2 : Addr) : Prop where
  a : LamT H T1 qSteps (stmtPos sSteps)
  b : LamT H T2 qSought (stmtPos sSought)
  n : T1 ≠ T2
theorem Tb.keep {H H' : Hp} {T1 T2 : Addr} (h : Tb H T1 T2) (s : Same H H') : Tb H' T1 T2 := ⟨h.a.keep s, h.b.keep s, h.n⟩
def RetT (T1 T2 : Addr) (H : Hp) (Q : VK) (rows : List Rw) (x : V) : Prop := ∀ z l vs H', SmN H H' → Tb H' T1 T2 → H' z = some (.tup [.ref l, x]) → H' l = some (.lst vs) → RwL H' vs rows → Q (.ref z) H'
def OutT (T1 T2 : Addr) (most : Nat) (H : Hp) (Q : VK) : Res → Prop
  | .found rows => RetT T1 T2 H Q rows (.int ((rows.length : Nat) - 1 : Int))
  | .none rows => RetT T1 T2 H Q rows .non
  | .many => ∀ z H', SmN H H' → Tb H' T1 T2 → H' z = some (.tup [.str "many", .int ((most : Nat) : Int)]) → Q (.ref z) H'
def spTold (P : Program) (w : World) (T1 T2 : Addr) : Sp := fun vs H Q _ => ∃ v0 g gl kd us B, vs = [v0, .ref g, .ref gl, .int ((B.deep : Nat) : Int), .int ((B.most : Nat) : Int)] ∧ Tb H T1 T2 ∧ Uv kd H us B ∧ v0 ∈ us ∧ Gv kd P w H g gl us B ∧ OutT T1 T2 B.most H Q (bfs B v0)
section
variable {P : Program} {w : World} {K : PySem.W.Frag} {mg : Str → Option Value} {base : Heap} {cP cM fI T1 T2 : Addr}
def spWhole : Sp := fun vs H Q _ => ∃ n : Int, vs = [.int n] ∧ Q (.bl true) H
theorem scWhole : FnScope ["_law_found"] ["_law_found"] (defScope sWhole) := ⟨rfl, rfl, rfl, by decide +kernel, rfl, by decide +kernel, by decide +kernel⟩
theorem ok_whole {f : Addr} {fd : FuncData} (F : Fun K "_law_whole" "_law_whole" sWhole f fd) (T : Txt mg) : FnOk P w K mg base CX0 1 f fd ["_law_found"] spWhole := by
  refine F.ok scWhole (fun vs H Q E h => ?_) (fun cdv A outer s H vs Q E hr h => ?_)
  · obtain ⟨_, rfl, _⟩ := h
    rfl
  · obtain ⟨n, rfl, k⟩ := h
    refine ⟨_, pss_one (ps_ret (pe_and (pe_callB call_isi rfl T.isi boot_isinstance (pa_cons (pv 0) (pa_cons (pe_bltn (v := .ty "int") rfl T.int' bt_int rfl) pa_nil)))
      (pe_one (pe_not (pe_callB call_isi rfl T.isi boot_isinstance (pa_cons (pv 0) (pa_cons (pe_bltn (v := .ty "bool") rfl T.bool' bt_bool rfl) pa_nil))))))), ?_⟩
    refine ⟨_, rfl, _, "int", true, rfl, .int_int, _, rfl, iteT ?_⟩
    exact ⟨_, rfl, _, "bool", false, rfl, .int_bool, _, rfl, k⟩
abbrev Nto : List Str := ["_law_first", "_law_graph_here", "_law_goals", "_law_deepest", "_law_most", "_law_found", "_law_refused", "e"]
theorem scTo : FnScope Nto ["_law_first", "_law_graph_here", "_law_goals", "_law_deepest", "_law_most"] (defScope sTold) := ⟨rfl, rfl, rfl, by decide +kernel, rfl, by decide +kernel, by decide +kernel⟩
abbrev psS : List Str := ["first", "steps", "sought", "deepest", "most"]
theorem ok_told {f : Addr} {fd : FuncData} (F : Fun K "_law_told" "_law_told" sTold f fd) (T : Txt mg) (R : ErM K mg cP cM fI) (cSo : Cal P w K mg base CX0 4 "_law_steps_of" ["_law_graph_here"] (spStepsOf T1)) (cGo : Cal P w K mg base CX0 4 "_law_sought_of" ["_law_goals"] (spSoughtOf T2))
    (c3 : CalD P w K mg base (CXg P w) 4 "spread" psS (spSpread P w K mg base cM) [.int 60, .int 2000]) (c4 : CalD P w K mg base (CXg P w) 4 "spread" psS (spSpread P w K mg base cM) [.int 2000]) (c5 : CalD P w K mg base (CXg P w) 4 "spread" psS (spSpread P w K mg base cM) []) :
    FnOk P w K mg base CX0 5 f fd ["_law_first", "_law_graph_here", "_law_goals", "_law_deepest", "_law_most"] (spTold P w T1 T2) := by
  refine F.ok scTo (fun vs H Q E h => ?_) (fun cdv A oo s H vs Q E hr h => ?_)
  · obtain ⟨_, _, _, _, _, _, rfl, _⟩ := h
    rfl
  · obtain ⟨v0, g, gl, kd, us, B, rfl, tb, uv, h0, gv, out⟩ := h
    refine ⟨_, (pss_cons (ps_set (i := 5) scTo.nd rfl (Or.inl rfl) pe_non)
      (pss_cons (ps_set (i := 6) scTo.nd rfl (Or.inl rfl) pe_non)
      (pss_cons (ps_try (i := 7) (j := 6) ⟨rfl, rfl, rfl⟩ rfl R.mM R.ct scTo.nd rfl rfl rfl rfl (by decide) (fun pins E' Ec hp => pss_one
        (ps_if (PW.pt (pw_and (pt_cmpR op_eq (pv 3) pe_int (nomark _)) (pw_and1 (pt_cmpR op_eq (pv 4) pe_int (nomark _)))))
          (pss_one (ps_set (i := 5) scTo.nd rfl (Or.inl rfl) (pe_calD c3 hr rfl hp (pa_cons (pv 0) (pa_cons (pe_cal cSo hr rfl pass0 (pa_cons (pv 1) pa_nil)) (pa_cons (pe_cal cGo hr rfl pass0 (pa_cons (pv 2) pa_nil)) pa_nil))))))
          (pss_one (ps_if (pt_cmpR op_eq (pv 4) pe_int (nomark _))
            (pss_one (ps_set (i := 5) scTo.nd rfl (Or.inl rfl) (pe_calD c4 hr rfl hp (pa_cons (pv 0) (pa_cons (pe_cal cSo hr rfl pass0 (pa_cons (pv 1) pa_nil)) (pa_cons (pe_cal cGo hr rfl pass0 (pa_cons (pv 2) pa_nil)) (pa_cons (pv 3) pa_nil)))))))
            (pss_one (ps_set (i := 5) scTo.nd rfl (Or.inl rfl) (pe_calD c5 hr rfl hp (pa_cons (pv 0) (pa_cons (pe_cal cSo hr rfl pass0 (pa_cons (pv 1) pa_nil)) (pa_cons (pe_cal cGo hr rfl pass0 (pa_cons (pv 2) pa_nil)) (pa_cons (pv 3) (pa_cons (pv 4) pa_nil)))))))))))))
      (pss_cons (ps_if (pt_cmpR op_isN (pv 6) pe_non (nomark _))
        (pss_one (ps_ret (pv 5)))
        pss_nil)
      (pss_cons (ps_if (PW.pt (pw_or (pt_not (pt_val (pe_callB call_isiY rfl T.isi boot_isinstance (pa_cons (pv 6) (pa_cons (pe_glob (v := .ref cP) rfl R.mP rfl) pa_nil))))) (pw_or1 (pt_not (pt_val (pe_callB call_isiY rfl T.isi boot_isinstance (pa_cons (pv 6) (pa_cons (pe_bltn (v := .ty "ValueError") rfl T.val bt_val rfl) pa_nil))))))))
        (pss_one (ps_ret (pe_tup (pa_cons pe_str pa_nil))))
        pss_nil)
      (pss_one (ps_ret (pe_tup (pa_cons pe_str (pa_cons (pe_exf (pv 6) rfl) pa_nil)))))))))), ?_⟩
    -- the makers, then the spread
    refine ⟨_, rfl, rfl, _, rfl, ite2 (fun h1 => ⟨_, rfl, rfl, _, rfl, ite2 (fun h2 => ?_) (fun h2 => ?_)⟩) (fun h1 => iteF ?_)⟩
    · have e1 : ((B.deep : Nat) : Int) = 60 := by have := of_decide_eq_true h1; injection this
      have e2 : ((B.most : Nat) : Int) = 2000 := by have := of_decide_eq_true h2; injection this
      refine ⟨_, rfl, _, rfl, .ref g, rfl, tb.a, fun fs cc o H1 sb1 l1 _ _ fn1 ce1 => ?_⟩
      have s1 : SmN H H1 := .ofB sb1 tb.a
      have tb1 : Tb H1 T1 T2 := ⟨l1, lamT_b tb.b sb1 (Ne.symm tb.n) tb.a, tb.n⟩
      refine ⟨_, rfl, .ref gl, rfl, tb1.b, fun fg cc2 o2 H2 sb2 l2 _ _ fn2 ce2 => ?_⟩
      have s12 : SmN H1 H2 := .ofB sb2 tb1.b
      have tb2 : Tb H2 T1 T2 := ⟨lamT_b tb1.a sb2 tb1.n tb1.b, l2, tb1.n⟩
      have uv2 := uv.n (s1.trans s12)
      have gv2 := gv.n (s1.trans s12)
      refine ⟨v0, fs, fg, kd, us, B, (by rw [e1, e2]; rfl), uv2, h0, clo_steps T (K61.FnN.n fn1 s12) (K61.Cells.n ce1 s12) uv2 gv2, clo_sought fn2 ce2 uv2 gv2, ?_⟩
      have s02 := s1.trans s12
      cases hb : bfs B v0 with
      | found rows =>
        rw [hb] at out
        intro z l vs H3 s3 hz hl rw3
        exact ⟨_, rfl, rfl, _, rfl, iteT ⟨_, rfl, out z l vs H3 (s02.trans (.of s3)) (tb2.keep s3) hz hl rw3⟩⟩
      | none rows =>
        rw [hb] at out
        intro z l vs H3 s3 hz hl rw3
        exact ⟨_, rfl, rfl, _, rfl, iteT ⟨_, rfl, out z l vs H3 (s02.trans (.of s3)) (tb2.keep s3) hz hl rw3⟩⟩
      | many =>
        rw [hb] at out
        intro dx H3 s3 hdx
        refine ⟨cM, rfl, R.ef.i.k, R.s, fun a na => ?_⟩
        have s4 := Same.upd (o := excD a cM (some dx)) na
        have ha : upd H3 a (excD a cM (some dx)) a = some (excD a cM (some dx)) := upd_same
        have hdx4 := s4 _ _ hdx
        generalize upd H3 a (excD a cM (some dx)) = H4 at s4 ha hdx4 ⊢
        refine ⟨_, rfl, rfl, _, rfl, iteF ⟨_, rfl, a, cM, some dx, .ref cP, .ref cP, true, rfl, ha, R.ef.i.k, rfl, R.iP, _, rfl, iteF ⟨_, rfl, a, cM, some dx, .type "ValueError", .ty "ValueError", true, rfl, ha, R.ef.i.k, rfl, R.iV, _, rfl, iteF ?_⟩⟩⟩
        refine ⟨_, rfl, a, cM, cP, fI, dx, _, .int ((B.most : Nat) : Int), rfl, ha, hdx4, R.ef, rfl, (by show 2 ≤ sizeLine; decide), fun z nz => ?_⟩
        have s5 := Same.upd (o := .tup [.str "many", .int ((B.most : Nat) : Int)]) nz
        have s25 := (s3.trans s4).trans s5
        exact out z _ (s02.trans (.of s25)) (tb2.keep s25) upd_same
    · refine ⟨_, rfl, rfl, _, rfl, ite2 (fun h3 => ?_) (fun h3 => ?_)⟩
      · have e2 : ((B.most : Nat) : Int) = 2000 := by have := of_decide_eq_true h3; injection this
        refine ⟨_, rfl, _, rfl, .ref g, rfl, tb.a, fun fs cc o H1 sb1 l1 _ _ fn1 ce1 => ?_⟩
        have s1 : SmN H H1 := .ofB sb1 tb.a
        have tb1 : Tb H1 T1 T2 := ⟨l1, lamT_b tb.b sb1 (Ne.symm tb.n) tb.a, tb.n⟩
        refine ⟨_, rfl, .ref gl, rfl, tb1.b, fun fg cc2 o2 H2 sb2 l2 _ _ fn2 ce2 => ?_⟩
        have s12 : SmN H1 H2 := .ofB sb2 tb1.b
        have tb2 : Tb H2 T1 T2 := ⟨lamT_b tb1.a sb2 tb1.n tb1.b, l2, tb1.n⟩
        have uv2 := uv.n (s1.trans s12)
        have gv2 := gv.n (s1.trans s12)
        refine ⟨_, rfl, v0, fs, fg, kd, us, B, (by rw [e2]; rfl), uv2, h0, clo_steps T (K61.FnN.n fn1 s12) (K61.Cells.n ce1 s12) uv2 gv2, clo_sought fn2 ce2 uv2 gv2, ?_⟩
        have s02 := s1.trans s12
        cases hb : bfs B v0 with
        | found rows =>
          rw [hb] at out
          intro z l vs H3 s3 hz hl rw3
          exact ⟨_, rfl, rfl, _, rfl, iteT ⟨_, rfl, out z l vs H3 (s02.trans (.of s3)) (tb2.keep s3) hz hl rw3⟩⟩
        | none rows =>
          rw [hb] at out
          intro z l vs H3 s3 hz hl rw3
          exact ⟨_, rfl, rfl, _, rfl, iteT ⟨_, rfl, out z l vs H3 (s02.trans (.of s3)) (tb2.keep s3) hz hl rw3⟩⟩
        | many =>
          rw [hb] at out
          intro dx H3 s3 hdx
          refine ⟨cM, rfl, R.ef.i.k, R.s, fun a na => ?_⟩
          have s4 := Same.upd (o := excD a cM (some dx)) na
          have ha : upd H3 a (excD a cM (some dx)) a = some (excD a cM (some dx)) := upd_same
          have hdx4 := s4 _ _ hdx
          generalize upd H3 a (excD a cM (some dx)) = H4 at s4 ha hdx4 ⊢
          refine ⟨_, rfl, rfl, _, rfl, iteF ⟨_, rfl, a, cM, some dx, .ref cP, .ref cP, true, rfl, ha, R.ef.i.k, rfl, R.iP, _, rfl, iteF ⟨_, rfl, a, cM, some dx, .type "ValueError", .ty "ValueError", true, rfl, ha, R.ef.i.k, rfl, R.iV, _, rfl, iteF ?_⟩⟩⟩
          refine ⟨_, rfl, a, cM, cP, fI, dx, _, .int ((B.most : Nat) : Int), rfl, ha, hdx4, R.ef, rfl, (by show 2 ≤ sizeLine; decide), fun z nz => ?_⟩
          have s5 := Same.upd (o := .tup [.str "many", .int ((B.most : Nat) : Int)]) nz
          have s25 := (s3.trans s4).trans s5
          exact out z _ (s02.trans (.of s25)) (tb2.keep s25) upd_same
      · skip
        refine ⟨_, rfl, _, rfl, .ref g, rfl, tb.a, fun fs cc o H1 sb1 l1 _ _ fn1 ce1 => ?_⟩
        have s1 : SmN H H1 := .ofB sb1 tb.a
        have tb1 : Tb H1 T1 T2 := ⟨l1, lamT_b tb.b sb1 (Ne.symm tb.n) tb.a, tb.n⟩
        refine ⟨_, rfl, .ref gl, rfl, tb1.b, fun fg cc2 o2 H2 sb2 l2 _ _ fn2 ce2 => ?_⟩
        have s12 : SmN H1 H2 := .ofB sb2 tb1.b
        have tb2 : Tb H2 T1 T2 := ⟨lamT_b tb1.a sb2 tb1.n tb1.b, l2, tb1.n⟩
        have uv2 := uv.n (s1.trans s12)
        have gv2 := gv.n (s1.trans s12)
        refine ⟨_, rfl, _, rfl, v0, fs, fg, kd, us, B, rfl, uv2, h0, clo_steps T (K61.FnN.n fn1 s12) (K61.Cells.n ce1 s12) uv2 gv2, clo_sought fn2 ce2 uv2 gv2, ?_⟩
        have s02 := s1.trans s12
        cases hb : bfs B v0 with
        | found rows =>
          rw [hb] at out
          intro z l vs H3 s3 hz hl rw3
          exact ⟨_, rfl, rfl, _, rfl, iteT ⟨_, rfl, out z l vs H3 (s02.trans (.of s3)) (tb2.keep s3) hz hl rw3⟩⟩
        | none rows =>
          rw [hb] at out
          intro z l vs H3 s3 hz hl rw3
          exact ⟨_, rfl, rfl, _, rfl, iteT ⟨_, rfl, out z l vs H3 (s02.trans (.of s3)) (tb2.keep s3) hz hl rw3⟩⟩
        | many =>
          rw [hb] at out
          intro dx H3 s3 hdx
          refine ⟨cM, rfl, R.ef.i.k, R.s, fun a na => ?_⟩
          have s4 := Same.upd (o := excD a cM (some dx)) na
          have ha : upd H3 a (excD a cM (some dx)) a = some (excD a cM (some dx)) := upd_same
          have hdx4 := s4 _ _ hdx
          generalize upd H3 a (excD a cM (some dx)) = H4 at s4 ha hdx4 ⊢
          refine ⟨_, rfl, rfl, _, rfl, iteF ⟨_, rfl, a, cM, some dx, .ref cP, .ref cP, true, rfl, ha, R.ef.i.k, rfl, R.iP, _, rfl, iteF ⟨_, rfl, a, cM, some dx, .type "ValueError", .ty "ValueError", true, rfl, ha, R.ef.i.k, rfl, R.iV, _, rfl, iteF ?_⟩⟩⟩
          refine ⟨_, rfl, a, cM, cP, fI, dx, _, .int ((B.most : Nat) : Int), rfl, ha, hdx4, R.ef, rfl, (by show 2 ≤ sizeLine; decide), fun z nz => ?_⟩
          have s5 := Same.upd (o := .tup [.str "many", .int ((B.most : Nat) : Int)]) nz
          have s25 := (s3.trans s4).trans s5
          exact out z _ (s02.trans (.of s25)) (tb2.keep s25) upd_same
    · refine ⟨_, rfl, rfl, _, rfl, ite2 (fun h3 => ?_) (fun h3 => ?_)⟩
      · have e2 : ((B.most : Nat) : Int) = 2000 := by have := of_decide_eq_true h3; injection this
        refine ⟨_, rfl, _, rfl, .ref g, rfl, tb.a, fun fs cc o H1 sb1 l1 _ _ fn1 ce1 => ?_⟩
        have s1 : SmN H H1 := .ofB sb1 tb.a
        have tb1 : Tb H1 T1 T2 := ⟨l1, lamT_b tb.b sb1 (Ne.symm tb.n) tb.a, tb.n⟩
        refine ⟨_, rfl, .ref gl, rfl, tb1.b, fun fg cc2 o2 H2 sb2 l2 _ _ fn2 ce2 => ?_⟩
        have s12 : SmN H1 H2 := .ofB sb2 tb1.b
        have tb2 : Tb H2 T1 T2 := ⟨lamT_b tb1.a sb2 tb1.n tb1.b, l2, tb1.n⟩
        have uv2 := uv.n (s1.trans s12)
        have gv2 := gv.n (s1.trans s12)
        refine ⟨_, rfl, v0, fs, fg, kd, us, B, (by rw [e2]; rfl), uv2, h0, clo_steps T (K61.FnN.n fn1 s12) (K61.Cells.n ce1 s12) uv2 gv2, clo_sought fn2 ce2 uv2 gv2, ?_⟩
        have s02 := s1.trans s12
        cases hb : bfs B v0 with
        | found rows =>
          rw [hb] at out
          intro z l vs H3 s3 hz hl rw3
          exact ⟨_, rfl, rfl, _, rfl, iteT ⟨_, rfl, out z l vs H3 (s02.trans (.of s3)) (tb2.keep s3) hz hl rw3⟩⟩
        | none rows =>
          rw [hb] at out
          intro z l vs H3 s3 hz hl rw3
          exact ⟨_, rfl, rfl, _, rfl, iteT ⟨_, rfl, out z l vs H3 (s02.trans (.of s3)) (tb2.keep s3) hz hl rw3⟩⟩
        | many =>
          rw [hb] at out
          intro dx H3 s3 hdx
          refine ⟨cM, rfl, R.ef.i.k, R.s, fun a na => ?_⟩
          have s4 := Same.upd (o := excD a cM (some dx)) na
          have ha : upd H3 a (excD a cM (some dx)) a = some (excD a cM (some dx)) := upd_same
          have hdx4 := s4 _ _ hdx
          generalize upd H3 a (excD a cM (some dx)) = H4 at s4 ha hdx4 ⊢
          refine ⟨_, rfl, rfl, _, rfl, iteF ⟨_, rfl, a, cM, some dx, .ref cP, .ref cP, true, rfl, ha, R.ef.i.k, rfl, R.iP, _, rfl, iteF ⟨_, rfl, a, cM, some dx, .type "ValueError", .ty "ValueError", true, rfl, ha, R.ef.i.k, rfl, R.iV, _, rfl, iteF ?_⟩⟩⟩
          refine ⟨_, rfl, a, cM, cP, fI, dx, _, .int ((B.most : Nat) : Int), rfl, ha, hdx4, R.ef, rfl, (by show 2 ≤ sizeLine; decide), fun z nz => ?_⟩
          have s5 := Same.upd (o := .tup [.str "many", .int ((B.most : Nat) : Int)]) nz
          have s25 := (s3.trans s4).trans s5
          exact out z _ (s02.trans (.of s25)) (tb2.keep s25) upd_same
      · skip
        refine ⟨_, rfl, _, rfl, .ref g, rfl, tb.a, fun fs cc o H1 sb1 l1 _ _ fn1 ce1 => ?_⟩
        have s1 : SmN H H1 := .ofB sb1 tb.a
        have tb1 : Tb H1 T1 T2 := ⟨l1, lamT_b tb.b sb1 (Ne.symm tb.n) tb.a, tb.n⟩
        refine ⟨_, rfl, .ref gl, rfl, tb1.b, fun fg cc2 o2 H2 sb2 l2 _ _ fn2 ce2 => ?_⟩
        have s12 : SmN H1 H2 := .ofB sb2 tb1.b
        have tb2 : Tb H2 T1 T2 := ⟨lamT_b tb1.a sb2 tb1.n tb1.b, l2, tb1.n⟩
        have uv2 := uv.n (s1.trans s12)
        have gv2 := gv.n (s1.trans s12)
        refine ⟨_, rfl, _, rfl, v0, fs, fg, kd, us, B, rfl, uv2, h0, clo_steps T (K61.FnN.n fn1 s12) (K61.Cells.n ce1 s12) uv2 gv2, clo_sought fn2 ce2 uv2 gv2, ?_⟩
        have s02 := s1.trans s12
        cases hb : bfs B v0 with
        | found rows =>
          rw [hb] at out
          intro z l vs H3 s3 hz hl rw3
          exact ⟨_, rfl, rfl, _, rfl, iteT ⟨_, rfl, out z l vs H3 (s02.trans (.of s3)) (tb2.keep s3) hz hl rw3⟩⟩
        | none rows =>
          rw [hb] at out
          intro z l vs H3 s3 hz hl rw3
          exact ⟨_, rfl, rfl, _, rfl, iteT ⟨_, rfl, out z l vs H3 (s02.trans (.of s3)) (tb2.keep s3) hz hl rw3⟩⟩
        | many =>
          rw [hb] at out
          intro dx H3 s3 hdx
          refine ⟨cM, rfl, R.ef.i.k, R.s, fun a na => ?_⟩
          have s4 := Same.upd (o := excD a cM (some dx)) na
          have ha : upd H3 a (excD a cM (some dx)) a = some (excD a cM (some dx)) := upd_same
          have hdx4 := s4 _ _ hdx
          generalize upd H3 a (excD a cM (some dx)) = H4 at s4 ha hdx4 ⊢
          refine ⟨_, rfl, rfl, _, rfl, iteF ⟨_, rfl, a, cM, some dx, .ref cP, .ref cP, true, rfl, ha, R.ef.i.k, rfl, R.iP, _, rfl, iteF ⟨_, rfl, a, cM, some dx, .type "ValueError", .ty "ValueError", true, rfl, ha, R.ef.i.k, rfl, R.iV, _, rfl, iteF ?_⟩⟩⟩
          refine ⟨_, rfl, a, cM, cP, fI, dx, _, .int ((B.most : Nat) : Int), rfl, ha, hdx4, R.ef, rfl, (by show 2 ≤ sizeLine; decide), fun z nz => ?_⟩
          have s5 := Same.upd (o := .tup [.str "many", .int ((B.most : Nat) : Int)]) nz
          have s25 := (s3.trans s4).trans s5
          exact out z _ (s02.trans (.of s25)) (tb2.keep s25) upd_same
end
end K61

namespace K61
open PySem PySem.Spec PyProof.Rows L2 GM TM BF
/-! ### _law_alike -/
def SfR (rows : List Rw) : Prop := ∀ r ∈ rows, Sf r.1 ∧ Sf r.2.2.2
theorem SfR.snoc {rows : List Rw} {r : Rw} (h : SfR rows) (k : Sf r.1 ∧ Sf r.2.2.2) : SfR (rows ++ [r]) := fun q hq => by
  rcases List.mem_append.mp hq with hq | hq
  · exact h q hq
  · rw [List.mem_singleton.mp hq]; exact k
def sfRes : Res → Prop
  | .found rows => SfR rows
  | .none rows => SfR rows
  | .many => True
def sfIn : List Rw ⊕ Res → Prop
  | .inl rows => SfR rows
  | .inr x => sfRes x
theorem inner_sf {B : Prm} {p d : Nat} : ∀ (es : List (V × V)) (rows : List Rw), (∀ x ∈ es, Sf x.2 ∧ Sf x.1) → SfR rows → sfIn (inner B p d rows es)
  | [], rows, _, h => h
  | x :: es, rows, hx, h => by
    have h1 := hx x (List.mem_cons_self ..)
    have h2 : ∀ y ∈ es, Sf y.2 ∧ Sf y.1 := fun y hy => hx y (List.mem_cons_of_mem _ hy)
    rw [inner_cons]
    split
    · exact inner_sf es rows h2 h
    · split
      · trivial
      · split
        · exact h.snoc (r := (x.2, d + 1, some p, x.1)) h1
        · exact inner_sf es _ h2 (h.snoc (r := (x.2, d + 1, some p, x.1)) h1)
theorem outer_sf {B : Prm} (hE : ∀ n, ∀ x ∈ B.E n, Sf x.2 ∧ Sf x.1) : ∀ (n : Nat) (rows : List Rw) (p : Nat), SfR rows → sfRes (outer B n rows p)
  | 0, rows, p, h => h
  | n + 1, rows, p, h => by
    by_cases pl : p < rows.length
    · obtain ⟨r, hr⟩ : ∃ r, rows[p]? = some r := ⟨_, List.getElem?_eq_getElem pl⟩
      rw [outer_at hr]
      split
      · have q := inner_sf (B := B) (p := p) (d := r.2.1) _ rows (hE (B.key r.1)) h
        revert q
        cases inner B p r.2.1 rows (B.E (B.key r.1)) with
        | inl rs => exact fun q => outer_sf hE n rs (p + 1) q
        | inr x => exact fun q => q
      · exact h
    · rw [outer_end (by omega)]
      exact h
theorem bfs_sf {B : Prm} {v : V} (hE : ∀ n, ∀ x ∈ B.E n, Sf x.2 ∧ Sf x.1) (hv : Sf v) : sfRes (bfs B v) := by
  have h1 : SfR [(v, 0, none, .non)] := fun r hr => by rw [List.mem_singleton.mp hr]; exact ⟨hv, .inl rfl⟩
  unfold bfs
  split
  · exact h1
  · exact outer_sf hE _ _ _ h1
/-- two lists of the same rows -/
theorem rows_eq {K : PySem.W.Frag} {H : Hp} {vs vs' : List V} {rows : List Rw} (h : RwL H vs rows) (h' : RwL H vs' rows) (sf : SfR rows) : vs.length = vs'.length ∧ ∀ (j : Nat) x y, vs[j]? = some x → vs'[j]? = some y → DEq K H 39 x y true := by
  refine ⟨by rw [K61.RwL.len h, K61.RwL.len h'], fun j x y hx hy => ?_⟩
  obtain ⟨r, hr⟩ : ∃ r, rows[j]? = some r := ⟨_, List.getElem?_eq_getElem (by rw [← K61.RwL.len h]; exact (List.getElem?_eq_some_iff.mp hx).1)⟩
  obtain ⟨_, e1, a, rfl, ha⟩ := paired_at h hr
  obtain ⟨_, e2, b, rfl, hb⟩ := paired_at h' hr
  rw [hx] at e1
  rw [hy] at e2
  cases e1; cases e2
  by_cases ne : a = b
  · subst ne; exact .same
  · obtain ⟨s1, s2⟩ := sf r (List.mem_of_getElem? hr)
    exact DEq.tup (K := K) (n := 38) (e := fun _ => true) ne (SqT.of ha) (SqT.of hb) fun j x y hx hy => by
      rw [hx] at hy
      cases hy
      match j, hx with
      | 0, hx => cases hx; exact DEq.self s1
      | 1, hx => cases hx; exact DEq.self (.inl rfl)
      | 2, hx => cases hx; exact DEq.self (sf_par _)
      | 3, hx => cases hx; exact DEq.self s2
      | j + 4, hx => simp at hx
theorem lists_eq {K : PySem.W.Frag} {H : Hp} {l l' : Addr} {vs vs' : List V} {rows : List Rw} (hl : H l = some (.lst vs)) (hl' : H l' = some (.lst vs')) (h : RwL H vs rows) (h' : RwL H vs' rows) (sf : SfR rows) : DEq K H 40 (.ref l) (.ref l') true := by
  obtain ⟨e, d⟩ := rows_eq (K := K) h h' sf
  by_cases ne : l = l'
  · subst ne; exact .same
  · have q := DEq.lst (K := K) (n := 39) (e := fun _ => true) ne (SqL.of hl) (SqL.of hl') d
    rw [all_true _ _ e] at q
    exact q
def nOr (x : V) : Prop := x = .non ∨ ∃ n : Int, x = .int n
theorem nOr.sf {x : V} (h : nOr x) : Sf x := by
  rcases h with rfl | ⟨n, rfl⟩ <;> exact .inl rfl
/-- found and due: the same rows -/
structure TwoR (H : Hp) (z z' : Addr) (rows : List Rw) (x : V) : Prop where
  a : ∃ l vs, H z = some (.tup [.ref l, x]) ∧ H l = some (.lst vs) ∧ RwL H vs rows
  b : ∃ l vs, H z' = some (.tup [.ref l, x]) ∧ H l = some (.lst vs) ∧ RwL H vs rows
  s : SfR rows
  n : nOr x
theorem TwoR.deq {K : PySem.W.Frag} {H : Hp} {z z' : Addr} {rows : List Rw} {x : V} (h : TwoR H z z' rows x) : ∃ xs ys, H z = some (.tup xs) ∧ H z' = some (.tup ys) ∧ xs.length = 2 ∧ ys.length = 2 ∧ ∀ (j : Nat) x y, xs[j]? = some x → ys[j]? = some y → DEq K H 40 x y true := by
  obtain ⟨l, vs, h1, h2, h3⟩ := h.a
  obtain ⟨l', vs', g1, g2, g3⟩ := h.b
  refine ⟨_, _, h1, g1, rfl, rfl, fun j x y hx hy => ?_⟩
  match j, hx, hy with
  | 0, hx, hy => cases hx; cases hy; exact lists_eq h2 g2 h3 g3 h.s
  | 1, hx, hy => cases hx; cases hy; exact DEq.self h.n.sf
  | j + 2, hx, _ => simp at hx
def spAlike : Sp := fun vs H Q _ => ∃ z z' rows x, vs = [.ref z, .ref z'] ∧ TwoR H z z' rows x ∧ Q (.bl true) H
section
variable {P : Program} {w : World} {K : PySem.W.Frag} {mg : Str → Option Value} {base : Heap}
theorem scAl : FnScope ["_law_found", "_law_due", "_law_row"] ["_law_found", "_law_due"] (defScope sAlike) := ⟨rfl, rfl, rfl, by decide +kernel, rfl, by decide +kernel, by decide +kernel⟩
theorem ok_alike {f : Addr} {fd : FuncData} (F : Fun K "_law_alike" "_law_alike" sAlike f fd) (T : Txt mg) (cW : Cal P w K mg base CX0 1 "_law_whole" ["_law_found"] spWhole) : FnOk P w K mg base CX0 2 f fd ["_law_found", "_law_due"] spAlike := by
  refine F.ok scAl (fun vs H Q E h => ?_) (fun cdv A oo s H vs Q E hr h => ?_)
  · obtain ⟨_, _, _, _, rfl, _⟩ := h
    rfl
  · obtain ⟨z, z', rows, x, rfl, two, k⟩ := h
    refine ⟨_, (pss_cons (ps_if (PW.pt (pw_or (pt_not (pt_val (pe_callB call_isi rfl T.isi boot_isinstance (pa_cons (pv 0) (pa_cons (pe_bltn (v := .ty "tuple") rfl T.tup' bt_tuple rfl) pa_nil))))) (pw_or (pt_cmpR op_ne (pe_callB call_len_seq rfl T.len PySem.boot_len (pa_cons (pv 0) pa_nil)) pe_int (nomark _)) (pw_or (pt_not (pt_val (pe_callB call_isi rfl T.isi boot_isinstance (pa_cons (pit 0 0) (pa_cons (pe_bltn (v := .ty "list") rfl T.list' bt_list rfl) pa_nil))))) (pw_or1 (pt_cmpR (op_neT hr.units) (pv 0) (pv 1) (nomark _)))))))
        (pss_one (ps_ret pe_bl))
        pss_nil)
      (pss_cons (ps_for PassesOwn.never rfl (pi_list (pit 0 0)) (pg_name (i := 2) scAl.nd rfl (Or.inl rfl))
        (pss_cons (ps_if (PW.pt (pw_or (pt_not (pt_val (pe_callB call_isi rfl T.isi boot_isinstance (pa_cons (pv 2) (pa_cons (pe_bltn (v := .ty "tuple") rfl T.tup' bt_tuple rfl) pa_nil))))) (pw_or1 (pt_not (pt_val (pe_cal cW hr rfl pass0 (pa_cons (pit 2 1) pa_nil)))))))
          (pss_one (ps_ret pe_bl))
          pss_nil)
        (pss_one (ps_if (PW.pt (pw_and (pt_cmpR op_notN (pit 2 2) pe_non (nomark _)) (pw_and1 (pt_not (pt_val (pe_cal cW hr rfl pass0 (pa_cons (pit 2 2) pa_nil)))))))
          (pss_one (ps_ret pe_bl))
          pss_nil))))
      (pss_one (ps_ret (pe_or (pe_cmpR op_isN (pit 0 1) pe_non (nomark _)) (pe_one (pe_cal cW hr rfl pass0 (pa_cons (pit 0 1) pa_nil)))))))), ?_⟩
    obtain ⟨xs, ys, hz, hz', lx, ly, deq⟩ := two.deq (K := K)
    obtain ⟨l, vs, h1, h2, h3⟩ := two.a
    rw [h1] at hz
    cases hz
    refine ⟨_, rfl, _, "tuple", true, rfl, .tup_tuple (SqT.of h1), _, rfl, iteF ⟨_, rfl, z, _, rfl, .inr (SqT.of h1), rfl, _, rfl, iteF ⟨z, _, _, rfl, SqT.of h1, rfl, _, "list", true, rfl, .lst_list (SqL.of h2), _, rfl, iteF ⟨_, rfl, _, rfl, z, z', _, ys, fun _ => true, rfl, rfl, SqT.of h1, SqT.of hz', deq, ?_⟩⟩⟩⟩
    have e2 : ((List.range (min [V.ref l, x].length ys.length)).all (fun _ => true) && [V.ref l, x].length == ys.length) = true := all_true _ _ (by rw [ly]; rfl)
    rw [e2]
    refine ⟨_, rfl, iteF ?_⟩
    refine ⟨z, _, _, rfl, SqT.of h1, rfl, l, rfl, ⟨_, SqL.of h2⟩, ?_⟩
    refine for_listN (xs := vs) (fun i σ' H' => ∃ v2, σ' = [some (.ref z), some (.ref z'), v2] ∧ H' = H) ⟨none, rfl, rfl⟩ ?_ ?_ ?_
    · rintro i σ' H' _ ⟨_, _, rfl⟩
      exact SqL.of h2
    · rintro i y σ' H' D' hN hy ⟨v2, rfl, rfl⟩
      obtain ⟨r, hr⟩ : ∃ r, rows[i]? = some r := ⟨_, List.getElem?_eq_getElem (by rw [← K61.RwL.len h3]; exact (List.getElem?_eq_some_iff.mp hy).1)⟩
      obtain ⟨_, e1, a, rfl, ha⟩ := paired_at h3 hr
      rw [hy] at e1
      cases e1
      refine ⟨_, rfl, _, "tuple", true, rfl, .tup_tuple (SqT.of ha), _, rfl, iteF ⟨a, _, _, rfl, SqT.of ha, rfl, _, rfl, _, rfl, iteF ?_⟩⟩
      cases hp : r.2.2.1 with
      | none =>
        rw [hp] at ha
        exact ⟨a, _, _, rfl, SqT.of ha, rfl, rfl, _, rfl, iteF (iteF (hN _ _ ⟨_, rfl, rfl⟩))⟩
      | some p =>
        rw [hp] at ha
        exact ⟨a, _, _, rfl, SqT.of ha, rfl, rfl, _, rfl, iteT ⟨a, _, _, rfl, SqT.of ha, rfl, _, rfl, _, rfl, iteF (hN _ _ ⟨_, rfl, rfl⟩)⟩⟩
    · rintro σ' H' ⟨v2, rfl, rfl⟩
      rcases two.n with rfl | ⟨n, rfl⟩
      · exact ⟨z, _, _, rfl, SqT.of h1, rfl, rfl, _, rfl, iteT k⟩
      · exact ⟨z, _, _, rfl, SqT.of h1, rfl, rfl, _, rfl, iteF ⟨z, _, _, rfl, SqT.of h1, rfl, n, rfl, k⟩⟩
end
end K61

namespace K61
open PySem PySem.Spec PyProof.Rows L2 GM TM BF
/-! ### graphs that are laid -/
open Classical in
/-- the key of a node -/
noncomputable def keyOf (kd : Bool) (H : Hp) (v : V) : Nd := if h : ∃ n, NdV kd H v n then Classical.choose h else .inl (.inl 0)
theorem keyOf_is {kd : Bool} {H : Hp} {v : V} (h : ∃ n, NdV kd H v n) : NdV kd H v (keyOf kd H v) := by
  unfold keyOf
  rw [dif_pos h]
  exact Classical.choose_spec h
theorem valV_put2 {κ : Type} [DecidableEq κ] (k n : κ) (v : V) (kvs : List (κ × V)) : valV (putK kvs k v) n = if k = n then some v else valV kvs n := by
  rw [valV_put]
  by_cases e : n = k
  · rw [if_pos e, if_pos e.symm]
  · rw [if_neg e, if_neg fun z => e z.symm]
/-- a graph so far: H0 the heap ahead of it -/
structure GS (kd : Bool) (P : Program) (w : World) (H0 H : Hp) (g : Addr) (E : Nd → List (V × V)) (kvs : List (Nd × V)) (N : Nat) : Prop where
  sm : Same H0 H
  ng : H0 g = none
  dx : DX kd P w H g kvs
  at' : ∀ n v, valV kvs n = some v → ∃ la es, v = .ref la ∧ H la = some (.lst es) ∧ EdL H es (E n) ∧ H0 la = none ∧ es.length ≤ N
  inj : ∀ n m v, valV kvs n = some v → valV kvs m = some v → n = m
  len : kvs.length ≤ 2500
theorem GS.keep {kd : Bool} {P : Program} {w : World} {H0 H H' : Hp} {g : Addr} {E : Nd → List (V × V)} {kvs : List (Nd × V)} {N : Nat} (h : GS kd P w H0 H g E kvs N) (s : Same H H') : GS kd P w H0 H' g E kvs N :=
  ⟨h.sm.trans s, h.ng, h.dx.keep (fun o => s _ _) fun b ys => s _ _, fun n v e => by
    obtain ⟨la, es, q1, q2, q3, q4⟩ := h.at' n v e
    exact ⟨la, es, q1, s _ _ q2, q3.keep fun b ys => s _ _, q4⟩, h.inj, h.len⟩
/-- graph[node] = a list that is new -/
theorem GS.putG {kd : Bool} {P : Program} {w : World} {H0 H : Hp} {g z : Addr} {E : Nd → List (V × V)} {kvs : List (Nd × V)} {N : Nat} {v : V} {n : Nd} {M : Hp → Prop} {es : List V} {xs : List (V × V)} (h1 : GS kd P w H0 H g E kvs N) (hz : H z = some (.lst es)) (ed : EdL H es xs) (zn : H0 z = none) (old : ∀ m, valV kvs m ≠ some (.ref z)) (el : es.length ≤ N) (k : NdV kd H v n) (hl : kvs.length < 2500)
    (hM : ∀ H', GS kd P w H0 H' g (fun m => if n = m then xs else E m) (putK kvs n (.ref z)) N → M H') : DPutX P w H g v (.ref z) M := by
  refine h1.dx.put k (size2001 (by omega)) fun o dx' => hM _ ?_
  obtain ⟨og, hog, nt, nl, _⟩ := h1.dx.there
  have tk : ∀ b ys, H b = some (.tup ys) → upd H g o b = some (.tup ys) := fun b ys e => by
    rw [upd_ne fun z' => by rw [z', hog] at e; cases e; exact nt _ rfl]; exact e
  have lk : ∀ b ys, H b = some (.lst ys) → upd H g o b = some (.lst ys) := fun b ys e => by
    rw [upd_ne fun z' => by rw [z', hog] at e; cases e; exact nl _ rfl]; exact e
  refine ⟨fun b u e => ?_, h1.ng, dx', fun m x e => ?_, fun m m' x e e' => ?_, ?_⟩
  · rw [upd_ne (ne_of_none e h1.ng)]; exact h1.sm _ _ e
  · rw [valV_put2] at e
    by_cases en : n = m
    · rw [if_pos en] at e
      cases e
      exact ⟨z, es, rfl, lk _ _ hz, by rw [if_pos en]; exact ed.keep tk, zn, el⟩
    · rw [if_neg en] at e
      obtain ⟨la, es, q1, q2, q3, q4⟩ := h1.at' m x e
      exact ⟨la, es, q1, lk _ _ q2, by rw [if_neg en]; exact q3.keep tk, q4⟩
  · rw [valV_put2] at e e'
    by_cases en : n = m
    · by_cases em : n = m'
      · rw [← en, em]
      · rw [if_pos en] at e
        rw [if_neg em] at e'
        cases e
        exact absurd e' (old m')
    · rw [if_neg en] at e
      by_cases em : n = m'
      · rw [if_pos em] at e'
        cases e'
        exact absurd e (old m)
      · rw [if_neg em] at e'
        exact h1.inj m m' x e e'
  · have := length_putK kvs n (.ref z)
    omega
theorem GS.old {kd : Bool} {P : Program} {w : World} {H0 H : Hp} {g z : Addr} {E : Nd → List (V × V)} {kvs : List (Nd × V)} {N : Nat} (h : GS kd P w H0 H g E kvs N) (nz : H z = none) (m : Nd) : valV kvs m ≠ some (.ref z) := fun e => by
  obtain ⟨la, es, q1, q2, _⟩ := h.at' m _ e
  cases q1
  rw [nz] at q2; cases q2
/-- graph[node] = [] -/
theorem GS.put {kd : Bool} {P : Program} {w : World} {H0 H : Hp} {g z : Addr} {E : Nd → List (V × V)} {kvs : List (Nd × V)} {N : Nat} {v : V} {n : Nd} {M : Hp → Prop} (h : GS kd P w H0 H g E kvs N) (nz : H z = none) (k : NdV kd (upd H z (.lst [])) v n) (hl : kvs.length < 2500)
    (hM : ∀ H', GS kd P w H0 H' g (fun m => if n = m then [] else E m) (putK kvs n (.ref z)) N → M H') : DPutX P w (upd H z (.lst [])) g v (.ref z) M :=
  (h.keep (Same.upd (o := .lst []) nz)).putG upd_same .nil (sm0 h.sm nz) (h.old nz) (Nat.zero_le _) k hl hM
/-- graph[start].append((deed, node)) -/
theorem GS.app {kd : Bool} {P : Program} {w : World} {H0 H : Hp} {g la zt : Addr} {E : Nd → List (V × V)} {kvs : List (Nd × V)} {N : Nat} {n : Nd} {es : List V} {d v : V} (h : GS kd P w H0 H g E kvs N) (hv : valV kvs n = some (.ref la)) (hl : H la = some (.lst es)) (ht : H zt = some (.tup [d, v])) :
    GS kd P w H0 (upd H la (.lst (es ++ [.ref zt]))) g (fun m => if n = m then E m ++ [(d, v)] else E m) kvs (N + 1) := by
  obtain ⟨la', es', e1, q2, q3, q4, q5⟩ := h.at' n _ hv
  cases e1
  rw [hl] at q2
  cases q2
  obtain ⟨og, hog, nt, nl, _⟩ := h.dx.there
  have gl : g ≠ la := fun z => by rw [z, hl] at hog; cases hog; exact nl _ rfl
  have tk : ∀ b ys, H b = some (.tup ys) → upd H la (.lst (es ++ [.ref zt])) b = some (.tup ys) := fun b ys e => by
    rw [upd_ne fun z => by rw [z, hl] at e; cases e]; exact e
  refine ⟨fun b u e => ?_, h.ng, h.dx.keep (fun o e => by rw [upd_ne gl]; exact e) tk, fun m x e => ?_, h.inj, h.len⟩
  · rw [upd_ne (ne_of_none e q4)]; exact h.sm _ _ e
  · obtain ⟨lb, fs, r1, r2, r3, r4, r5⟩ := h.at' m x e
    by_cases en : n = m
    · subst en
      rw [hv] at e
      cases e
      cases r1
      refine ⟨la, _, rfl, upd_same, ?_, q4, by rw [List.length_append]; exact Nat.add_le_add_right q5 1⟩
      rw [if_pos rfl]
      exact Paired.snoc (q3.keep tk) ⟨zt, rfl, tk _ _ ht⟩
    · have ne : lb ≠ la := fun z => en (h.inj n m _ hv (by rw [e, r1, z]))
      exact ⟨lb, fs, r1, by rw [upd_ne ne]; exact r2, by rw [if_neg en]; exact r3.keep tk, r4, by omega⟩
/-- a graph as it is handed on -/
structure Gw (kd : Bool) (P : Program) (w : World) (H : Hp) (g : Addr) (us : List V) (key : V → Nd) (E : Nd → List (V × V)) : Prop where
  dx : ∃ kvs, DX kd P w H g kvs ∧ ∀ v ∈ us, ∃ la es, valV kvs (key v) = some (.ref la) ∧ H la = some (.lst es) ∧ EdL H es (E (key v))
  ed : ∀ n, ∀ x ∈ E n, x.2 ∈ us ∧ Sf x.1
end K61

namespace K61
open PySem PySem.Spec PyProof.Rows L2 GM TM BF
/-! ### cells, nodes -/
def spMixed : Sp := fun vs H Q _ => ∃ c k : Int, vs = [.int c, .int k] ∧ 0 ≤ k ∧ k ≤ 63 ∧ ∀ m : Int, 0 ≤ m → m < 2147483587 → Q (.int m) H
def spCell (K : PySem.W.Frag) : Sp := fun vs H Q _ => ∃ (a : Addr) (ns : List Int) (k : Int), vs = [.ref a, .int k] ∧ SqL K H a (ns.map V.int) ∧ 0 ≤ k ∧ ∀ c : Int, Q (.int c) H
def spNodes : Sp := fun vs H Q _ => ∃ m q : Int, vs = [.int m, .int q] ∧ 1 ≤ m ∧ m ≤ 30 ∧ 0 ≤ q ∧ q < 2147483587 ∧ ∀ p us H' kd, Same H H' → H p = none → H' p = some (.lst us) → 1 ≤ us.length → us.length ≤ 30 → (∀ v ∈ us, ∃ n, NdV kd H' v n) → Q (.ref p) H'
theorem strlen {n : Nat} (h : n < 10000) : (("at " : Str) ++ ((toString (n : Int) : String) : Str)).length ≤ 1000 := by
  rw [lenA]
  have := row_len h
  have l1 : ("at " : Str).length = 3 := by decide +kernel
  omega
section
variable {P : Program} {w : World} {K : PySem.W.Frag} {mg : Str → Option Value} {base : Heap}
theorem scMixed : FnScope ["_law_cell", "_law_k"] ["_law_cell", "_law_k"] (defScope sMixed) := ⟨rfl, rfl, rfl, by decide +kernel, rfl, by decide +kernel, by decide +kernel⟩
theorem ok_mixed {f : Addr} {fd : FuncData} (F : Fun K "_law_mixed" "_law_mixed" sMixed f fd) : FnOk P w K mg base CX0 1 f fd ["_law_cell", "_law_k"] spMixed := by
  refine F.ok scMixed (fun vs H Q E h => ?_) (fun cdv A outer s H vs Q E hr h => ?_)
  · obtain ⟨_, _, rfl, _⟩ := h
    rfl
  · obtain ⟨c, j, rfl, h0, h1, k⟩ := h
    refine ⟨_, (pss_one (ps_ret (pe_op op_mod (pe_op op_mulB (pe_op op_add (pe_op op_mod (pv 0) pe_int) pe_int) (pe_op op_add pe_int (pe_op op_mulB (pe_op op_mulB pe_int (pv 1)) (pv 1)))) pe_int))), ?_⟩
    have i1 := emod_in c (show (0 : Int) < 2147483647 by decide)
    have j2 : 0 ≤ 2 * j * j := Int.mul_nonneg (by omega) h0
    have j3 : 2 * j * j ≤ 2 * 63 * 63 := Int.mul_le_mul (by omega) h1 h0 (by decide)
    refine ⟨_, rfl, _, _, rfl, rfl, (by show (0 : Int) < 2147483647; decide), _, _, rfl, rfl, _, rfl, _, _, rfl, rfl, ⟨bl, bl h0 (by omega)⟩, _, rfl, _, _, rfl, rfl, ⟨bl (by omega) (by omega), bl h0 (by omega)⟩, _, _, rfl, rfl, _, _, rfl, rfl, ⟨bl (by omega) (by omega), bl (by omega) (by omega)⟩, _, _, rfl, rfl, (by show (0 : Int) < 2147483587; decide), ?_⟩
    have i2 := emod_in ((c % 2147483647 + 13) * (69621 + 2 * j * j)) (show (0 : Int) < 2147483587 by decide)
    exact k _ i2.1 i2.2
theorem scCell : FnScope ["_law_script", "_law_k"] ["_law_script", "_law_k"] (defScope sCell) := ⟨rfl, rfl, rfl, by decide +kernel, rfl, by decide +kernel, by decide +kernel⟩
theorem ok_cell {f : Addr} {fd : FuncData} (F : Fun K "_law_cell_at" "_law_cell_at" sCell f fd) (T : Txt mg) : FnOk P w K mg base CX0 1 f fd ["_law_script", "_law_k"] (spCell K) := by
  refine F.ok scCell (fun vs H Q E h => ?_) (fun cdv A outer s H vs Q E hr h => ?_)
  · obtain ⟨_, _, _, rfl, _⟩ := h
    rfl
  · obtain ⟨a, ns, j, rfl, hS, h0, k⟩ := h
    refine ⟨_, (pss_cons (ps_if (pt_cmpR op_lt (pv 1) (pe_callB call_len_seq rfl T.len PySem.boot_len (pa_cons (pv 0) pa_nil)) (nomark _))
        (pss_one (ps_ret (pe_ix ix_list (pv 0) (pv 1) (fun _ _ => rfl))))
        pss_nil)
      (pss_one (ps_ret pe_int))), ?_⟩
    refine ⟨_, rfl, _, rfl, a, _, rfl, .inl hS, _, _, rfl, rfl, _, rfl, ite2 (fun hc => ?_) (fun _ => k _)⟩
    have hc' : j < ((ns.map V.int).length : Int) := of_decide_eq_true hc
    rw [List.length_map] at hc'
    obtain ⟨i, rfl⟩ := Int.eq_ofNat_of_zero_le h0
    obtain ⟨c, hc⟩ : ∃ c, ns[i]? = some c := ⟨_, List.getElem?_eq_getElem (show i < ns.length by omega)⟩
    exact ⟨_, rfl, _, rfl, a, _, (i : Int), .int c, rfl, rfl, hS, atI_nat (by rw [List.getElem?_map, hc]; rfl), k c⟩

theorem scNo : FnScope ["_law_many", "_law_seed", "_law_found", "_law_k", "_law_number"] ["_law_many", "_law_seed"] (defScope sNodes) := ⟨rfl, rfl, rfl, by decide +kernel, rfl, by decide +kernel, by decide +kernel⟩
theorem ok_nodes {f : Addr} {fd : FuncData} (F : Fun K "_law_nodes" "_law_nodes" sNodes f fd) (T : Txt mg) : FnOk P w K mg base CX0 1 f fd ["_law_many", "_law_seed"] spNodes := by
  refine F.ok scNo (fun vs H Q E h => ?_) (fun cdv A oo s H vs Q E hr h => ?_)
  · obtain ⟨_, _, rfl, _⟩ := h
    rfl
  · obtain ⟨m, q, rfl, m1, m30, q0, ql, k⟩ := h
    refine ⟨_, (pss_cons (ps_set (i := 2) scNo.nd rfl (Or.inl rfl) (pe_lst pa_nil))
      (pss_cons (ps_for PassesOwn.never rfl (pi_range1 rfl T.range (pa_cons (pv 0) pa_nil)) (pg_name (i := 3) scNo.nd rfl (Or.inl rfl))
        (pss_cons (ps_set (i := 4) scNo.nd rfl (Or.inl rfl) (pe_op op_mod (pe_op op_add (pe_op op_fdivB (pv 1) pe_int) (pe_op op_mulB pe_int (pv 3))) pe_int))
        (pss_one (ps_if (pt_cmpR op_eq (pe_op op_mod (pv 1) pe_int) pe_int (nomark _))
          (pss_one (ps_expr (pe_bm PySem.F.plainAttrs_list PySem.F.slot_list_append PySem.F.type_list_append mt_append (pv 2) (pa_cons (pe_op op_sub pe_int (pv 4)) pa_nil))))
          (pss_one (ps_if (pt_cmpR op_eq (pe_op op_mod (pv 1) pe_int) pe_int (nomark _))
            (pss_one (ps_expr (pe_bm PySem.F.plainAttrs_list PySem.F.slot_list_append PySem.F.type_list_append mt_append (pv 2) (pa_cons (pe_op op_add_str pe_str (pe_callTy call_str_int rfl T.str' bt_str (pa_cons (pv 4) pa_nil))) pa_nil))))
            (pss_one (ps_expr (pe_bm PySem.F.plainAttrs_list PySem.F.slot_list_append PySem.F.type_list_append mt_append (pv 2) (pa_cons (pe_tup (pa_cons (pv 4) (pa_cons (pe_tup (pa_cons (pe_op op_mod (pv 3) pe_int) (pa_cons pe_str pa_nil))) pa_nil))) pa_nil))))))))))
      (pss_one (ps_ret (pv 2))))), ?_⟩
    refine ⟨(by show 0 ≤ sizeLine; decide), fun l nl => ?_⟩
    have s1 := Same.upd (o := .lst []) nl
    have hl1 : upd H l (.lst []) l = some (.lst []) := upd_same
    generalize upd H l (.lst []) = H1 at s1 hl1 ⊢
    refine ⟨_, rfl, _, rfl, by omega, by omega, ?_⟩
    have kd : ∃ kd : Bool, (kd = true ↔ ¬ q % 3 = 0 ∧ ¬ q % 3 = 1) := ⟨decide (¬ q % 3 = 0 ∧ ¬ q % 3 = 1), by simp⟩
    obtain ⟨kd, hkd⟩ := kd
    refine for_rangeN (fun i σ' H' => ∃ (us : List V) (v3 v4 : Option V), σ' = [some (.int m), some (.int q), some (.ref l), v3, v4] ∧ Same H H' ∧ H' l = some (.lst us) ∧ us.length = i ∧ ∀ v ∈ us, ∃ n, NdV kd H' v n) ⟨[], none, none, rfl, s1, hl1, rfl, fun v hv => nomatch hv⟩ ?_ ?_
    rotate_left
    · rintro σ' H2 ⟨us, v3, v4, rfl, s2, hl2, ul, nd⟩
      exact ⟨_, rfl, k l us H2 kd s2 nl hl2 (by omega) (by omega) nd⟩
    rintro i σ' H2 D' hN hi ⟨us, v3, v4, rfl, s2, hl2, ul, nd⟩
    refine ⟨_, rfl, _, _, rfl, rfl, ⟨by decide, b9⟩, _, rfl, _, _, rfl, rfl, ⟨bl, bl (by omega) (by omega)⟩, _, _, rfl, rfl, _, _, rfl, rfl, (by show (0 : Int) < 1000; decide), ?_⟩
    obtain ⟨n0, nl'⟩ := emod_in (q / 3 + 11 * (0 + (i : Int))) (show (0 : Int) < 1000 by decide)
    dsimp only [gName]
    generalize (q / 3 + 11 * (0 + (i : Int))) % 1000 = n at n0 nl' ⊢
    obtain ⟨n, rfl⟩ := Int.eq_ofNat_of_zero_le n0
    have put : ∀ (v : V) (H3 : Hp), Same H2 H3 → (∃ m, NdV kd H3 v m) → H3 l = some (.lst us) → us.length < sizeLine ∧ D'.nx [some (.int m), some (.int q), some (.ref l), some (.int (0 + (i : Int))), some (.int ((n : Nat) : Int))] (upd H3 l (.lst (us ++ [v]))) := fun v H3 s3 hv hl3 => by
      refine ⟨size2001 (by omega), hN _ _ ⟨us ++ [v], _, _, rfl, fun b o e => ?_, upd_same, by rw [List.length_append, ul]; rfl, fun u hu => ?_⟩⟩
      · rw [upd_ne (ne_of_none e nl)]; exact s3 _ _ (s2 _ _ e)
      · have tk : ∀ b ys, H3 b = some (.tup ys) → upd H3 l (.lst (us ++ [v])) b = some (.tup ys) := fun b ys e => by
          rw [upd_ne fun z => by rw [z, hl3] at e; cases e]; exact e
        rcases List.mem_append.mp hu with hu | hu
        · obtain ⟨x, hx⟩ := nd u hu
          exact ⟨x, (hx.keep fun b ys => s3 _ _).keep tk⟩
        · rw [List.mem_singleton.mp hu]
          obtain ⟨x, hx⟩ := hv
          exact ⟨x, hx.keep tk⟩
    refine ⟨_, rfl, _, _, rfl, rfl, (by show (0 : Int) < 3; decide), rfl, _, rfl, ite2 (fun h1 => ?_) (fun h1 => ?_)⟩
    · have e1 : q % 3 = 0 := by have := of_decide_eq_true h1; injection this
      have ek : kd = false := Bool.eq_false_iff.mpr fun z => (hkd.mp z).1 e1
      refine ⟨_, rfl, .inl ⟨rfl, _, SqL.of hl2⟩, _, rfl, _, _, rfl, rfl, l, us, _, rfl, rfl, hl2, put _ H2 (Same.refl _) ?_ hl2⟩
      subst ek
      exact ⟨.inl (.inl _), _, rfl, rfl⟩
    refine ⟨_, rfl, _, _, rfl, rfl, (by show (0 : Int) < 3; decide), rfl, _, rfl, ite2 (fun h2 => ?_) (fun h2 => ?_)⟩
    · have e2 : q % 3 = 1 := by have := of_decide_eq_true h2; injection this
      have ek : kd = false := Bool.eq_false_iff.mpr fun z => (hkd.mp z).2 e2
      have sl := strlen (n := n) (by omega)
      refine ⟨_, rfl, .inl ⟨rfl, _, SqL.of hl2⟩, _, rfl, _, rfl, logT (by omega), _, _, rfl, rfl, sz1000 (by rw [← lenA]; exact sl), l, us, _, rfl, rfl, hl2, put _ H2 (Same.refl _) ?_ hl2⟩
      subst ek
      exact ⟨.inl (.inr _), _, rfl, rfl⟩
    · have n1 : ¬ q % 3 = 0 := fun z => h1 (decide_eq_true (by show V.int (q % 3) = _; rw [z]))
      have n2 : ¬ q % 3 = 1 := fun z => h2 (decide_eq_true (by show V.int (q % 3) = _; rw [z]))
      have ek : kd = true := hkd.mpr ⟨n1, n2⟩
      refine ⟨_, rfl, .inl ⟨rfl, _, SqL.of hl2⟩, _, rfl, _, rfl, _, _, rfl, rfl, (by show (0 : Int) < 3; decide), (by show 2 ≤ sizeLine; decide), fun z1 nz1 => ⟨(by show 2 ≤ sizeLine; decide), fun z2 nz2 => ?_⟩⟩
      have t1 := Same.upd (o := .tup [.int ((0 + (i : Int)) % 3), .str "b"]) nz1
      have t2 := Same.upd (o := .tup [.int ((n : Nat) : Int), .ref z1]) nz2
      refine ⟨l, us, _, rfl, rfl, (t1.trans t2) _ _ hl2, put _ _ (t1.trans t2) ?_ ((t1.trans t2) _ _ hl2)⟩
      subst ek
      exact ⟨.inr (.inl ((n : Nat) : Int), [.inl ((0 + (i : Int)) % 3), .inr "b"]), _, z2, rfl, rfl, z1, upd_same, t2 _ _ upd_same⟩
end
end K61

namespace GM
/-- t over b, in lowest terms, is N over M -/
structure Fr (M t b N : Int) : Prop where
  am : Amt t b
  e : t * M = N * b
end GM

namespace TR
open PySem PySem.Spec PyProof.Rows L2 GM
theorem seq_nx {t u : TS} {D : Ends} {σ : L2.St} {H : Hp} (S : L2.St → Hp → Prop) (h : ∀ σ' H', S σ' H' → u D σ' H') (g : ∀ N : L2.St → Hp → Prop, (∀ σ' H', S σ' H' → N σ' H') → t { D with nx := N } σ H) : tSeq t u D σ H := g (u D) h
theorem seq_nx2 {t1 t2 u : TS} {D : Ends} {σ : L2.St} {H : Hp} (S : L2.St → Hp → Prop) (h : ∀ σ' H', S σ' H' → u D σ' H') (g : ∀ N : L2.St → Hp → Prop, (∀ σ' H', S σ' H' → N σ' H') → tSeq t1 t2 { D with nx := N } σ H) : tSeq t1 (tSeq t2 u) D σ H := g (u D) h
/-! ### the two largest of a list, noughts standing by -/
def Top2 (l : List Int) (f s : Int) : Prop := ∃ r, (l ++ [0, 0]).Perm (f :: s :: r) ∧ s ≤ f ∧ ∀ x ∈ r, x ≤ s
/-- the need of a recipe by those of its parts -/
def Nd (ds : List Int) (d : Int) : Prop := ∃ f s, Top2 ds f s ∧ d = max f (s + 1)
/-! ### counts of parts, a recipe ahead of its parts -/
def av : List Int → Int
  | [] => 0
  | c :: r => av r - c + 1
def Okc : List Int → Prop
  | [] => True
  | c :: r => Okc r ∧ 0 ≤ c ∧ c < 64 ∧ c ≤ av r
/-- p: the counts so far; m trees begun, l parts lacking -/
def Gd (p : List Int) (m l : Int) : Prop := ∀ r, Okc r → l ≤ av r → Okc (p ++ r) ∧ av r - l + m ≤ av (p ++ r)
/-! ### trees in the heap -/
def Am (H : Hp) (m : Addr) (n : Nat) : Prop := ∃ t b : Int, H m = some (.tup [.int t, .int b]) ∧ 0 ≤ t ∧ 1 ≤ b ∧ Bt (64 * n - 1) t ∧ Bt (64 * n - 1) b
/-- a part with its size and its need -/
abbrev Pt := V × Nat × Int
def szs (cs : List Pt) : Nat := (cs.map (·.2.1)).sum
def Tr (H : Hp) : Nat → V → Nat → Int → Prop
  | 0, _, _, _ => False
  | n + 1, v, s, d =>
    (∃ (p m : Addr) (x : Str), v = .ref p ∧ H p = some (.tup [.str "ware", .str x, .ref m]) ∧ Am H m 1 ∧ s = 1 ∧ d = 0) ∨
    (∃ (p m q : Addr) (x : Str) (cs : List Pt), v = .ref p ∧ H p = some (.tup [.str "recipe", .str x, .ref m, .ref q]) ∧ H q = some (.tup (cs.map (·.1))) ∧ 1 ≤ cs.length ∧ cs.length < 64 ∧
      (∀ c ∈ cs, Tr H n c.1 c.2.1 c.2.2) ∧ s = 1 + szs cs ∧ Nd (cs.map (·.2.2)) d ∧ Am H m s)
/-! ### things taken off a pile within a comprehension -/
def Bx (a : Addr) (H H' : Hp) : Prop := ∀ b o, b ≠ a → H b = some o → H' b = some o
/-- how many counts are not nought -/
def nzc (cs : List Int) : Nat := (cs.filter fun c => c != 0).length
/-- a pile of trees, behind the last j counts -/
structure Pile (H : Hp) (cs : List Int) (j : Nat) (pl : List Pt) : Prop where
  tr : ∀ c ∈ pl, Tr H (nzc (cs.drop (cs.length - j)) + 1) c.1 c.2.1 c.2.2
  sz : szs pl = j
  ln : (pl.length : Int) = av (cs.drop (cs.length - j))
  hd : 1 ≤ j → ∃ pl' q, pl = pl' ++ [q] ∧ ∀ c, cs[cs.length - j]? = some c → 1 ≤ c → 1 ≤ q.2.2
/-! ### paths -/
def AtP (H : Hp) : V → List Nat → V → Prop
  | v, [], u => v = u
  | v, k :: r, u => ∃ (p m q : Addr) (x : Str) (vs : List V) (c : V), v = .ref p ∧ H p = some (.tup [.str "recipe", .str x, .ref m, .ref q]) ∧ H q = some (.tup vs) ∧ vs[k]? = some c ∧ AtP H c r u
abbrev pth (ks : List Nat) : List V := ks.map fun (k : Nat) => V.int (k : Int)
/-- an entry of a list of paths: the path and the part that lies there; s the part's size -/
def Ent (H : Hp) (root : V) (N : Nat) (e : Addr) (s : Nat) : Prop := ∃ (pa : Addr) (ks : List Nat) (v : V) (n : Nat) (d : Int), H e = some (.tup [.ref pa, v]) ∧ H pa = some (.tup (pth ks)) ∧ AtP H root ks v ∧ Tr H n v s d ∧ ks.length + n ≤ N
end TR

namespace K61
open PySem PySem.Spec PyProof.Rows L2 GM TM BF TR
/-! ### _law_graph, _law_graph_by -/
theorem at_in {us : List V} {d : Int} (d0 : 0 ≤ d) (dl : d < ((us.length : Nat) : Int)) : ∃ v, atI us d = some v ∧ v ∈ us := by
  obtain ⟨j, rfl⟩ := Int.eq_ofNat_of_zero_le d0
  obtain ⟨v, hv⟩ : ∃ v, us[j]? = some v := ⟨_, List.getElem?_eq_getElem (by omega)⟩
  exact ⟨v, atI_nat hv, List.mem_of_getElem? hv⟩
theorem at_mod {us : List V} (x : Int) (h : 1 ≤ us.length) : ∃ v, atI us (x % ((us.length : Nat) : Int)) = some v ∧ v ∈ us := by
  obtain ⟨a, b⟩ := emod_in x (show (0 : Int) < ((us.length : Nat) : Int) by omega)
  exact at_in a b
/-- nodes in a list -/
structure NsL (kd : Bool) (H : Hp) (nl : Addr) (us : List V) (key : V → Nd) : Prop where
  l : H nl = some (.lst us)
  u1 : 1 ≤ us.length
  u30 : us.length ≤ 30
  nd : ∀ v ∈ us, NdV kd H v (key v)
theorem NsL.keep {kd : Bool} {H H' : Hp} {nl : Addr} {us : List V} {key : V → Nd} (h : NsL kd H nl us key) (s : Same H H') : NsL kd H' nl us key := ⟨s _ _ h.l, h.u1, h.u30, fun v hv => (h.nd v hv).keep fun b ys => s _ _⟩
def spGraph (P : Program) (w : World) (K : PySem.W.Frag) : Sp := fun vs H Q _ => ∃ nl cl kd us key, ∃ ns : List Int, vs = [.ref nl, .ref cl] ∧ NsL kd H nl us key ∧ SqL K H cl (ns.map V.int) ∧ ns.length ≤ 61 ∧ ∀ g E H', Same H H' → Gw kd P w H' g us key E → Q (.ref g) H'
/-- a graph while it is filled -/
structure GF (kd : Bool) (P : Program) (w : World) (H0 H : Hp) (g : Addr) (us : List V) (key : V → Nd) (N : Nat) : Prop where
  ex : ∃ E kvs, GS kd P w H0 H g E kvs N ∧ (∀ v ∈ us, (valV kvs (key v)).isSome = true) ∧ ∀ n, ∀ x ∈ E n, x.2 ∈ us ∧ Sf x.1
theorem GF.w {kd : Bool} {P : Program} {w : World} {H0 H : Hp} {g : Addr} {us : List V} {key : V → Nd} {N : Nat} (h : GF kd P w H0 H g us key N) : Same H0 H ∧ ∃ E, Gw kd P w H g us key E := by
  obtain ⟨E, kvs, gs, hs, he⟩ := h.ex
  refine ⟨gs.sm, E, ⟨kvs, gs.dx, fun v hv => ?_⟩, he⟩
  obtain ⟨x, hx⟩ := Option.isSome_iff_exists.mp (hs v hv)
  obtain ⟨la, es, e, q1, q2, _⟩ := gs.at' _ x hx
  exact ⟨la, es, by rw [hx, e], q1, q2⟩
theorem GF.keep {kd : Bool} {P : Program} {w : World} {H0 H H' : Hp} {g : Addr} {us : List V} {key : V → Nd} {N : Nat} (h : GF kd P w H0 H g us key N) (s : Same H H') : GF kd P w H0 H' g us key N := by
  obtain ⟨E, kvs, gs, hs, he⟩ := h.ex
  exact ⟨E, kvs, gs.keep s, hs, he⟩
/-- the list of a node -/
theorem GF.at {kd : Bool} {P : Program} {w : World} {H0 H : Hp} {g : Addr} {us : List V} {key : V → Nd} {N : Nat} {v : V} (h : GF kd P w H0 H g us key N) (hv : v ∈ us) (nd : NdV kd H v (key v)) : ∃ la es, DGetX P w H g v (some (.ref la)) ∧ H la = some (.lst es) ∧ es.length ≤ N ∧
    ∀ H' zt d x, Same H H' → H' zt = some (.tup [d, x]) → x ∈ us → Sf d → GF kd P w H0 (upd H' la (.lst (es ++ [.ref zt]))) g us key (N + 1) := by
  obtain ⟨E, kvs, gs, hs, he⟩ := h.ex
  obtain ⟨y, hy⟩ := Option.isSome_iff_exists.mp (hs v hv)
  obtain ⟨la, es, rfl, q1, q2, q3, q4⟩ := gs.at' _ y hy
  refine ⟨la, es, by rw [← hy]; exact gs.dx.get nd, q1, q4, fun H' zt d x s ht hx sd => ⟨_, kvs, (gs.keep s).app hy (s _ _ q1) ht, hs, fun n z hz => ?_⟩⟩
  by_cases e : key v = n
  · rw [if_pos e] at hz
    rcases List.mem_append.mp hz with hz | hz
    · exact he n z hz
    · rw [List.mem_singleton.mp hz]; exact ⟨hx, sd⟩
  · rw [if_neg e] at hz
    exact he n z hz
section
variable {P : Program} {w : World} {K : PySem.W.Frag} {mg : Str → Option Value} {base : Heap}
theorem scGr : FnScope ["_law_nodes_here", "_law_cells", "_law_graph_here", "_law_node", "_law_k", "_law_cell", "_law_start", "_law_deed"] ["_law_nodes_here", "_law_cells"] (defScope sGraph) := ⟨rfl, rfl, rfl, by decide +kernel, rfl, by decide +kernel, by decide +kernel⟩
theorem ok_graph {f : Addr} {fd : FuncData} (F : Fun K "_law_graph" "_law_graph" sGraph f fd) (T : Txt mg) (cM : Cal P w K mg base CX0 1 "_law_mixed" ["_law_cell", "_law_k"] spMixed) : FnOk P w K mg base CX0 2 f fd ["_law_nodes_here", "_law_cells"] (spGraph P w K) := by
  refine F.ok scGr (fun vs H Q E h => ?_) (fun cdv A oo s H vs Q E hr h => ?_)
  · obtain ⟨_, _, _, _, _, _, rfl, _⟩ := h
    rfl
  · obtain ⟨nl, cl, kd, us, key, ns, rfl, nsl, hS, n61, k⟩ := h
    refine ⟨_, (pss_cons (ps_set (i := 2) scGr.nd rfl (Or.inl rfl) pe_dnewX)
      (pss_cons (ps_for PassesOwn.never rfl (pi_list (pv 0)) (pg_name (i := 3) scGr.nd rfl (Or.inl rfl)) (pss_one (ps_dputX (Nat.lt_of_le_of_lt (Nat.add_le_add_left (by decide : 2 ≤ 64) _) hr.units) (pv 2) (pv 3) (pe_lst pa_nil) rfl)))
      (pss_cons (ps_for PassesOwn.never rfl (pi_range1 rfl T.range (pa_cons (pe_callB call_len_seq rfl T.len PySem.boot_len (pa_cons (pv 1) pa_nil)) pa_nil)) (pg_name (i := 4) scGr.nd rfl (Or.inl rfl)) (pss_cons (ps_set (i := 5) scGr.nd rfl (Or.inl rfl) (pe_cal cM hr rfl pass0 (pa_cons (pe_ix ix_list (pv 1) (pv 4) (fun _ _ => rfl)) (pa_cons (pe_op op_add (pv 4) pe_int) pa_nil))))
      (pss_cons (ps_set (i := 6) scGr.nd rfl (Or.inl rfl) (pe_ix ix_list (pv 0) (pe_op op_mod (pv 5) (pe_callB call_len_seq rfl T.len PySem.boot_len (pa_cons (pv 0) pa_nil))) (fun _ _ => rfl)))
      (pss_cons (ps_if (pt_cmpR op_eq (pe_op op_mod (pe_op op_fdivB (pv 5) pe_int) pe_int) pe_int (nomark _)) (pss_one (ps_set (i := 6) scGr.nd rfl (Or.inl rfl) (pe_ix ix_list (pv 0) (pe_op op_mod (pe_op op_fdivB (pv 5) pe_int) (pe_callB (call_min2 rfl) rfl T.min' boot_min (pa_cons (pe_callB call_len_seq rfl T.len PySem.boot_len (pa_cons (pv 0) pa_nil)) (pa_cons (pe_op op_add (pv 4) pe_int) pa_nil)))) (fun _ _ => rfl)))) pss_nil)
      (pss_cons (ps_set (i := 7) scGr.nd rfl (Or.inl rfl) (pe_ix ix_list (pe_lst (pa_cons (pe_op op_mod (pe_op op_fdivB (pv 5) pe_int) pe_int) (pa_cons pe_str (pa_cons (pe_tup (pa_cons pe_str (pa_cons (pe_op op_mod (pv 4) pe_int) pa_nil))) (pa_cons (pe_tup (pa_cons pe_str (pa_cons (pe_op op_mod (pe_op op_fdivB (pv 5) pe_int) pe_int) pa_nil))) pa_nil))))) (pe_op op_mod (pe_op op_fdivB (pv 5) pe_int) pe_int) (fun _ _ => rfl)))
      (pss_one (ps_expr (pe_bm PySem.F.plainAttrs_list PySem.F.slot_list_append PySem.F.type_list_append mt_append (pe_dgetX (Nat.lt_of_le_of_lt (Nat.add_le_add_left (by decide : 2 ≤ 64) _) hr.units) (pv 2) (pv 6) (fun _ _ => rfl)) (pa_cons (pe_tup (pa_cons (pv 7) (pa_cons (pe_ix ix_list (pv 0) (pe_op op_mod (pe_op op_fdivB (pv 5) pe_int) (pe_callB call_len_seq rfl T.len PySem.boot_len (pa_cons (pv 0) pa_nil))) (fun _ _ => rfl)) pa_nil))) pa_nil)))))))))
      (pss_one (ps_ret (pv 2)))))), ?_⟩
    dsimp only [tSeq, tAsg]
    refine DX.new (kd := kd) fun g o ng dx1 => ?_
    have s1 := Same.upd (o := o) ng
    have u1 := nsl.u1
    have u30 := nsl.u30
    have gs0 : GS kd P w H (upd H g o) g (fun _ => []) [] 0 := ⟨s1, ng, dx1, (fun n v e => by cases e), (fun n m v e => by cases e), Nat.zero_le _⟩
    generalize upd H g o = H1 at s1 dx1 gs0 ⊢
    have nsl1 := nsl.keep s1
    refine ⟨_, rfl, nl, rfl, ⟨us, SqL.of nsl1.l⟩, ?_⟩
    refine for_listN (xs := us) (fun i σ' H' => ∃ (E : Nd → List (V × V)) (kvs : List (Nd × V)) (v3 v4 v5 v6 v7 : Option V), σ' = [some (.ref nl), some (.ref cl), some (.ref g), v3, v4, v5, v6, v7] ∧ GS kd P w H H' g E kvs 0 ∧ kvs.length ≤ i ∧ (∀ v ∈ us.take i, (valV kvs (key v)).isSome = true) ∧ ∀ n, E n = []) ⟨_, [], none, none, none, none, none, rfl, gs0, Nat.le_refl _, (fun v hv => by rw [List.take_zero] at hv; cases hv), fun _ => rfl⟩ ?_ ?_ ?_
    · rintro i σ' H' _ ⟨E, kvs, v3, v4, v5, v6, v7, _, gs, _⟩
      exact SqL.of (gs.sm _ _ nsl.l)
    · rintro i x σ' H2 D' hN hx ⟨E, kvs, v3, v4, v5, v6, v7, rfl, gs, kl, tk, eE⟩
      have xm := List.mem_of_getElem? hx
      have il := (List.getElem?_eq_some_iff.mp hx).1
      refine ⟨(by show 0 ≤ sizeLine; decide), fun z nz => ?_⟩
      refine ⟨_, rfl, _, rfl, g, rfl, gs.put nz ((nsl.keep (gs.sm.trans (Same.upd nz))).nd x xm) (by omega) fun H3 gs3 => hN _ _ ⟨_, _, _, _, _, _, _, rfl, gs3, ?_, fun v hv => ?_, fun n => ?_⟩⟩
      · have := length_putK kvs (key x) (.ref z)
        omega
      · rw [valV_put2]
        by_cases e : key x = key v
        · rw [if_pos e]; rfl
        · rw [if_neg e]
          rw [List.take_add_one, hx] at hv
          rcases List.mem_append.mp hv with hv | hv
          · exact tk v hv
          · have : v = x := by simpa using hv
            exact absurd (by rw [this]) e
      · show (if key x = n then [] else E n) = []
        rw [eE n]
        split <;> rfl
    rintro σ' H2 ⟨E, kvs, v3, v4, v5, v6, v7, rfl, gs, kl, tk, eE⟩
    rw [List.take_length] at tk
    have gf0 : GF kd P w H H2 g us key 0 := ⟨E, kvs, gs, tk, fun n x hx => by rw [eE n] at hx; cases hx⟩
    clear gs tk eE kl
    have hlen : (ns.map V.int).length = ns.length := List.length_map ..
    refine ⟨_, rfl, cl, _, rfl, .inl (gf0.w.1.seq hS), _, rfl, by omega, by omega, ?_⟩
    refine for_rangeN (fun i σ' H' => ∃ (v3 v4 v5 v6 v7 : Option V), σ' = [some (.ref nl), some (.ref cl), some (.ref g), v3, v4, v5, v6, v7] ∧ GF kd P w H H' g us key i) ⟨_, _, _, _, _, rfl, gf0⟩ ?_ ?_
    rotate_left
    · rintro σ' H3 ⟨_, _, _, _, _, rfl, gf⟩
      obtain ⟨sm, E, gw⟩ := gf.w
      exact ⟨_, rfl, k g E H3 sm gw⟩
    rintro i σ' H3 D' hN hi ⟨v3, v4, v5, v6, v7, rfl, gf⟩
    have il : i < ns.length := by omega
    have sm := gf.w.1
    have ns3 := nsl.keep sm
    obtain ⟨c, hc⟩ : ∃ c, ns[i]? = some c := ⟨_, List.getElem?_eq_getElem il⟩
    have hcat : atI (ns.map V.int) (0 + (i : Int)) = some (.int c) := by rw [Int.zero_add]; exact atI_nat (by rw [List.getElem?_map, hc]; rfl)
    refine ⟨_, rfl, _, rfl, cl, _, _, .int c, rfl, rfl, sm.seq hS, hcat, _, rfl, _, _, rfl, rfl, c, _, rfl, by omega, by omega, fun m m0 ml => ?_⟩
    have lp : (0 : Int) < ((us.length : Nat) : Int) := by omega
    obtain ⟨st, hst, stm⟩ := at_mod m u1
    refine ⟨_, rfl, _, rfl, _, rfl, nl, us, rfl, .inl (SqL.of ns3.l), _, _, rfl, rfl, lp, nl, us, _, st, rfl, rfl, SqL.of ns3.l, hst, ?_⟩
    dsimp only [gName]
    refine seq_nx (fun σ' H' => ∃ x, σ' = [some (.ref nl), some (.ref cl), some (.ref g), v3, some (.int (0 + (i : Int))), some (.int m), some x, v7] ∧ H' = H3 ∧ x ∈ us) ?_ (fun N hN2 => ?_)
    rotate_left
    · refine ⟨_, rfl, _, _, rfl, rfl, ⟨by decide, b9⟩, _, _, rfl, rfl, (by show (0 : Int) < 2; decide), rfl, _, rfl, ite2 (fun _ => ?_) (fun _ => hN2 _ _ ⟨st, rfl, rfl, stm⟩)⟩
      have mnp : (0 : Int) < (if (0 + (i : Int)) + 1 < ((us.length : Nat) : Int) then (0 + (i : Int)) + 1 else ((us.length : Nat) : Int)) ∧ (if (0 + (i : Int)) + 1 < ((us.length : Nat) : Int) then (0 + (i : Int)) + 1 else ((us.length : Nat) : Int)) ≤ ((us.length : Nat) : Int) := by split <;> omega
      obtain ⟨q0, q1⟩ := emod_in (m / 60) mnp.1
      obtain ⟨s2, hs2, sm2⟩ := at_in (us := us) q0 (Int.lt_of_lt_of_le q1 mnp.2)
      exact ⟨_, rfl, _, rfl, _, _, rfl, rfl, ⟨by decide, b9⟩, _, rfl, nl, us, rfl, .inl (SqL.of ns3.l), _, rfl, _, _, rfl, rfl, _, _, rfl, _, _, rfl, rfl, mnp.1, nl, us, _, s2, rfl, rfl, SqL.of ns3.l, hs2, hN2 _ _ ⟨s2, rfl, rfl, sm2⟩⟩
    rintro σ' H4 ⟨x, rfl, rfl, xm⟩
    refine ⟨_, rfl, _, _, rfl, rfl, ⟨by decide, b9⟩, _, _, rfl, rfl, (by show (0 : Int) < 4; decide), _, rfl, _, _, rfl, rfl, (by show (0 : Int) < 9; decide), (by show (2 : Nat) ≤ sizeLine; decide), fun z1 nz1 => ?_⟩
    have t1 := Same.upd (o := .tup [.str "off", .int ((0 + (i : Int)) % 9)]) nz1
    refine ⟨_, rfl, _, _, rfl, rfl, ⟨by decide, b9⟩, _, _, rfl, rfl, (by show (0 : Int) < 4; decide), (by show (2 : Nat) ≤ sizeLine; decide), fun z2 nz2 => ?_⟩
    have t2 := Same.upd (o := .tup [.str "off", .int (m / 7 % 4)]) nz2
    refine ⟨(by show 4 ≤ sizeLine; decide), fun zl nzl => ?_⟩
    have t3 := Same.upd (o := .lst [.int (m / 7 % 4), .str "on", .ref z1, .ref z2]) nzl
    obtain ⟨d0, d4⟩ := emod_in (m / 1800) (show (0 : Int) < 4 by decide)
    obtain ⟨dv, hdv, dm⟩ := at_in (us := [V.int (m / 7 % 4), .str "on", .ref z1, .ref z2]) d0 d4
    have dsf : Sf dv := by
      have : ∀ v ∈ [V.int (m / 7 % 4), .str "on", .ref z1, .ref z2], Sf v := List.forall_mem_cons.mpr ⟨.inl rfl, List.forall_mem_cons.mpr ⟨.inl rfl, List.forall_mem_cons.mpr ⟨.inr ⟨_, rfl⟩, List.forall_mem_cons.mpr ⟨.inr ⟨_, rfl⟩, fun _ h => nomatch h⟩⟩⟩⟩
      exact this dv dm
    refine ⟨_, rfl, _, _, rfl, rfl, ⟨by decide, b9⟩, _, _, rfl, rfl, (by show (0 : Int) < 4; decide), zl, _, _, dv, rfl, rfl, SqL.of upd_same, hdv, ?_⟩
    have s35 := (t1.trans t2).trans t3
    have gf5 := gf.keep s35
    have ns5 := ns3.keep s35
    generalize upd (upd (upd H4 z1 (.tup [.str "off", .int ((0 + (i : Int)) % 9)])) z2 (.tup [.str "off", .int (m / 7 % 4)])) zl (.lst [.int (m / 7 % 4), .str "on", .ref z1, .ref z2]) = H5 at gf5 ns5 ⊢
    obtain ⟨la, es, dg, hla, el, fin⟩ := gf5.at xm (ns5.nd x xm)
    obtain ⟨y, hy, ym⟩ := at_mod (m / 7200) u1
    refine ⟨_, rfl, _, rfl, g, .ref la, rfl, dg, .inl ⟨rfl, _, SqL.of hla⟩, _, rfl, _, rfl, _, rfl, _, _, rfl, rfl, ⟨by decide, b9⟩, _, rfl, nl, us, rfl, .inl (SqL.of ns5.l), _, _, rfl, rfl, lp, nl, us, _, y, rfl, rfl, SqL.of ns5.l, hy, (by show (2 : Nat) ≤ sizeLine; decide), fun zt nzt => ?_⟩
    have t6 := Same.upd (o := .tup [dv, y]) nzt
    exact ⟨la, es, .ref zt, rfl, rfl, t6 _ _ hla, size2001 (by omega), hN _ _ ⟨_, _, _, _, _, rfl, fin _ zt dv y t6 upd_same ym dsf⟩⟩
theorem scGb : FnScope ["_law_nodes_here", "_law_cells", "_law_graph_here", "_law_node", "_law_cell", "_law_left", "_law_start", "_law_goal", "_law_deed"] ["_law_nodes_here", "_law_cells"] (defScope sGraphBy) := ⟨rfl, rfl, rfl, by decide +kernel, rfl, by decide +kernel, by decide +kernel⟩
theorem ok_graphby {f : Addr} {fd : FuncData} (F : Fun K "_law_graph_by" "_law_graph_by" sGraphBy f fd) (T : Txt mg) : FnOk P w K mg base CX0 1 f fd ["_law_nodes_here", "_law_cells"] (spGraph P w K) := by
  refine F.ok scGb (fun vs H Q E h => ?_) (fun cdv A oo s H vs Q E hr h => ?_)
  · obtain ⟨_, _, _, _, _, _, rfl, _⟩ := h
    rfl
  · obtain ⟨nl, cl, kd, us, key, ns, rfl, nsl, hS, n61, k⟩ := h
    refine ⟨_, (pss_cons (ps_set (i := 2) scGb.nd rfl (Or.inl rfl) pe_dnewX)
      (pss_cons (ps_for PassesOwn.never rfl (pi_list (pv 0)) (pg_name (i := 3) scGb.nd rfl (Or.inl rfl)) (pss_one (ps_dputX (Nat.lt_of_le_of_lt (Nat.add_le_add_left (by decide : 2 ≤ 64) _) hr.units) (pv 2) (pv 3) (pe_lst pa_nil) rfl)))
      (pss_cons (ps_for PassesOwn.never rfl (pi_list (pv 1)) (pg_name (i := 4) scGb.nd rfl (Or.inl rfl)) (pss_cons (ps_set (i := 5) scGb.nd rfl (Or.inl rfl) (pe_callB call_abs rfl T.abs' bt_abs (pa_cons (pv 4) pa_nil)))
      (pss_cons (ps_set (i := 6) scGb.nd rfl (Or.inl rfl) (pe_ix ix_list (pv 0) (pe_op op_mod (pv 5) (pe_callB call_len_seq rfl T.len PySem.boot_len (pa_cons (pv 0) pa_nil))) (fun _ _ => rfl)))
      (pss_cons (ps_set (i := 5) scGb.nd rfl (Or.inl rfl) (pe_op op_fdivB (pv 5) (pe_callB call_len_seq rfl T.len PySem.boot_len (pa_cons (pv 0) pa_nil))))
      (pss_cons (ps_set (i := 7) scGb.nd rfl (Or.inl rfl) (pe_ix ix_list (pv 0) (pe_op op_mod (pv 5) (pe_callB call_len_seq rfl T.len PySem.boot_len (pa_cons (pv 0) pa_nil))) (fun _ _ => rfl)))
      (pss_cons (ps_set (i := 5) scGb.nd rfl (Or.inl rfl) (pe_op op_fdivB (pv 5) (pe_callB call_len_seq rfl T.len PySem.boot_len (pa_cons (pv 0) pa_nil))))
      (pss_cons (ps_set (i := 8) scGb.nd rfl (Or.inl rfl) (pe_ix ix_list (pe_lst (pa_cons (pe_op op_fdivB (pv 5) pe_int) (pa_cons pe_str (pa_cons (pe_tup (pa_cons pe_str (pa_cons (pe_op op_mod (pe_op op_fdivB (pv 5) pe_int) pe_int) pa_nil))) (pa_cons (pe_tup (pa_cons pe_str (pa_cons (pe_op op_fdivB (pv 5) pe_int) pa_nil))) pa_nil))))) (pe_op op_mod (pv 5) pe_int) (fun _ _ => rfl)))
      (pss_one (ps_expr (pe_bm PySem.F.plainAttrs_list PySem.F.slot_list_append PySem.F.type_list_append mt_append (pe_dgetX (Nat.lt_of_le_of_lt (Nat.add_le_add_left (by decide : 2 ≤ 64) _) hr.units) (pv 2) (pv 6) (fun _ _ => rfl)) (pa_cons (pe_tup (pa_cons (pv 8) (pa_cons (pv 7) pa_nil))) pa_nil)))))))))))
      (pss_one (ps_ret (pv 2)))))), ?_⟩
    dsimp only [tSeq, tAsg]
    refine DX.new (kd := kd) fun g o ng dx1 => ?_
    have s1 := Same.upd (o := o) ng
    have u1 := nsl.u1
    have u30 := nsl.u30
    have gs0 : GS kd P w H (upd H g o) g (fun _ => []) [] 0 := ⟨s1, ng, dx1, (fun n v e => by cases e), (fun n m v e => by cases e), Nat.zero_le _⟩
    generalize upd H g o = H1 at s1 dx1 gs0 ⊢
    have nsl1 := nsl.keep s1
    refine ⟨_, rfl, nl, rfl, ⟨us, SqL.of nsl1.l⟩, ?_⟩
    refine for_listN (xs := us) (fun i σ' H' => ∃ (E : Nd → List (V × V)) (kvs : List (Nd × V)) (v3 v4 v5 v6 v7 v8 : Option V), σ' = [some (.ref nl), some (.ref cl), some (.ref g), v3, v4, v5, v6, v7, v8] ∧ GS kd P w H H' g E kvs 0 ∧ kvs.length ≤ i ∧ (∀ v ∈ us.take i, (valV kvs (key v)).isSome = true) ∧ ∀ n, E n = []) ⟨_, [], none, none, none, none, none, none, rfl, gs0, Nat.le_refl _, (fun v hv => by rw [List.take_zero] at hv; cases hv), fun _ => rfl⟩ ?_ ?_ ?_
    · rintro i σ' H' _ ⟨E, kvs, v3, v4, v5, v6, v7, v8, _, gs, _⟩
      exact SqL.of (gs.sm _ _ nsl.l)
    · rintro i x σ' H2 D' hN hx ⟨E, kvs, v3, v4, v5, v6, v7, v8, rfl, gs, kl, tk, eE⟩
      have xm := List.mem_of_getElem? hx
      have il := (List.getElem?_eq_some_iff.mp hx).1
      refine ⟨(by show 0 ≤ sizeLine; decide), fun z nz => ?_⟩
      refine ⟨_, rfl, _, rfl, g, rfl, gs.put nz ((nsl.keep (gs.sm.trans (Same.upd nz))).nd x xm) (by omega) fun H3 gs3 => hN _ _ ⟨_, _, _, _, _, _, _, _, rfl, gs3, ?_, fun v hv => ?_, fun n => ?_⟩⟩
      · have := length_putK kvs (key x) (.ref z)
        omega
      · rw [valV_put2]
        by_cases e : key x = key v
        · rw [if_pos e]; rfl
        · rw [if_neg e]
          rw [List.take_add_one, hx] at hv
          rcases List.mem_append.mp hv with hv | hv
          · exact tk v hv
          · have : v = x := by simpa using hv
            exact absurd (by rw [this]) e
      · show (if key x = n then [] else E n) = []
        rw [eE n]
        split <;> rfl
    rintro σ' H2 ⟨E, kvs, v3, v4, v5, v6, v7, v8, rfl, gs, kl, tk, eE⟩
    rw [List.take_length] at tk
    have gf0 : GF kd P w H H2 g us key 0 := ⟨E, kvs, gs, tk, fun n x hx => by rw [eE n] at hx; cases hx⟩
    clear gs tk eE kl
    refine ⟨_, rfl, cl, rfl, ⟨_, gf0.w.1.seq hS⟩, ?_⟩
    refine for_listN (xs := ns.map V.int) (fun i σ' H' => ∃ (v3 v4 v5 v6 v7 v8 : Option V), σ' = [some (.ref nl), some (.ref cl), some (.ref g), v3, v4, v5, v6, v7, v8] ∧ GF kd P w H H' g us key i) ⟨_, _, _, _, _, _, rfl, gf0⟩ ?_ ?_ ?_
    · rintro i σ' H' _ ⟨_, _, _, _, _, _, _, gf⟩
      exact gf.w.1.seq hS
    rotate_left
    · rintro σ' H3 ⟨_, _, _, _, _, _, rfl, gf⟩
      obtain ⟨sm, E, gw⟩ := gf.w
      exact ⟨_, rfl, k g E H3 sm gw⟩
    rintro i x0 σ' H3 D' hN hx0 ⟨v3, v4, v5, v6, v7, v8, rfl, gf⟩
    have il : i < ns.length := by have := (List.getElem?_eq_some_iff.mp hx0).1; rwa [List.length_map] at this
    rw [List.getElem?_map] at hx0
    obtain ⟨c, hc, rfl⟩ := Option.map_eq_some_iff.mp hx0
    have sm := gf.w.1
    have ns3 := nsl.keep sm
    have lp : (0 : Int) < ((us.length : Nat) : Int) := by omega
    have lb : Bt 9000 ((us.length : Nat) : Int) := b9 (by omega) (by omega)
    refine ⟨_, rfl, c, rfl, ?_⟩
    dsimp only [gName]
    generalize (if c < 0 then -c else c) = m
    obtain ⟨x, hst, xm⟩ := at_mod m u1
    refine ⟨_, rfl, _, rfl, _, rfl, nl, us, rfl, .inl (SqL.of ns3.l), _, _, rfl, rfl, lp, nl, us, _, x, rfl, rfl, SqL.of ns3.l, hst, ?_⟩
    refine ⟨_, rfl, _, rfl, nl, us, rfl, .inl (SqL.of ns3.l), _, _, rfl, rfl, ⟨lp, lb⟩, ?_⟩
    dsimp only [gName]
    generalize m / ((us.length : Nat) : Int) = m2
    obtain ⟨y, hy, ym⟩ := at_mod m2 u1
    refine ⟨_, rfl, _, rfl, _, rfl, nl, us, rfl, .inl (SqL.of ns3.l), _, _, rfl, rfl, lp, nl, us, _, y, rfl, rfl, SqL.of ns3.l, hy, ?_⟩
    refine ⟨_, rfl, _, rfl, nl, us, rfl, .inl (SqL.of ns3.l), _, _, rfl, rfl, ⟨lp, lb⟩, ?_⟩
    dsimp only [gName]
    generalize m2 / ((us.length : Nat) : Int) = m3
    refine ⟨_, rfl, _, _, rfl, rfl, ⟨by decide, b9⟩, _, rfl, _, _, rfl, rfl, ⟨by decide, b9⟩, _, _, rfl, rfl, (by show (0 : Int) < 1000; decide), (by show (2 : Nat) ≤ sizeLine; decide), fun z1 nz1 => ?_⟩
    have t1 := Same.upd (o := .tup [.str "off", .int (m3 / 4 % 1000)]) nz1
    refine ⟨_, rfl, _, _, rfl, rfl, ⟨by decide, b9⟩, (by show (2 : Nat) ≤ sizeLine; decide), fun z2 nz2 => ?_⟩
    have t2 := Same.upd (o := .tup [.str "put", .int (m3 / 4)]) nz2
    refine ⟨(by show 4 ≤ sizeLine; decide), fun zl nzl => ?_⟩
    have t3 := Same.upd (o := .lst [.int (m3 / 4), .str "on", .ref z1, .ref z2]) nzl
    obtain ⟨d0, d4⟩ := emod_in m3 (show (0 : Int) < 4 by decide)
    obtain ⟨dv, hdv, dm⟩ := at_in (us := [V.int (m3 / 4), .str "on", .ref z1, .ref z2]) d0 d4
    have dsf : Sf dv := by
      have : ∀ v ∈ [V.int (m3 / 4), .str "on", .ref z1, .ref z2], Sf v := List.forall_mem_cons.mpr ⟨.inl rfl, List.forall_mem_cons.mpr ⟨.inl rfl, List.forall_mem_cons.mpr ⟨.inr ⟨_, rfl⟩, List.forall_mem_cons.mpr ⟨.inr ⟨_, rfl⟩, fun _ h => nomatch h⟩⟩⟩⟩
      exact this dv dm
    refine ⟨_, rfl, _, _, rfl, rfl, (by show (0 : Int) < 4; decide), zl, _, _, dv, rfl, rfl, SqL.of upd_same, hdv, ?_⟩
    have s35 := (t1.trans t2).trans t3
    have gf5 := gf.keep s35
    have ns5 := ns3.keep s35
    generalize upd (upd (upd H3 z1 (.tup [.str "off", .int (m3 / 4 % 1000)])) z2 (.tup [.str "put", .int (m3 / 4)])) zl (.lst [.int (m3 / 4), .str "on", .ref z1, .ref z2]) = H5 at gf5 ns5 ⊢
    obtain ⟨la, es, dg, hla, el, fin⟩ := gf5.at xm (ns5.nd x xm)
    refine ⟨_, rfl, _, rfl, g, .ref la, rfl, dg, .inl ⟨rfl, _, SqL.of hla⟩, _, rfl, _, rfl, (by show (2 : Nat) ≤ sizeLine; decide), fun zt nzt => ?_⟩
    have t6 := Same.upd (o := .tup [dv, y]) nzt
    exact ⟨la, es, .ref zt, rfl, rfl, t6 _ _ hla, size2001 (by omega), hN _ _ ⟨_, _, _, _, _, _, rfl, fin _ zt dv y t6 upd_same ym dsf⟩⟩
end
end K61

namespace K61
open PySem PySem.Spec PyProof.Rows L2 GM TM BF TR
/-! ### _law_asked_by, _law_chain -/
def spAsked : Sp := fun vs H Q _ => ∃ nl c kd us key, vs = [.ref nl, .int c] ∧ NsL kd H nl us key ∧ ∀ p v0 gl gs (deep most : Nat) H', Same H H' → H' p = some (.lst [v0, .ref gl, .int ((deep : Nat) : Int), .int ((most : Nat) : Int)]) → v0 ∈ us → H' gl = some (.lst gs) → (∀ v ∈ gs, v ∈ us) → 1 ≤ most → most ≤ 2000 → Q (.ref p) H'
section
variable {P : Program} {w : World} {K : PySem.W.Frag} {mg : Str → Option Value} {base : Heap}
theorem scAb : FnScope ["_law_nodes_here", "_law_cell", "_law_left", "_law_found", "_law_deepest", "_law_most", "_law_goals", "_law_many", "_law_k"] ["_law_nodes_here", "_law_cell"] (defScope sAskedBy) := ⟨rfl, rfl, rfl, by decide +kernel, rfl, by decide +kernel, by decide +kernel⟩
theorem ok_asked {f : Addr} {fd : FuncData} (F : Fun K "_law_asked_by" "_law_asked_by" sAskedBy f fd) (T : Txt mg) : FnOk P w K mg base CX0 1 f fd ["_law_nodes_here", "_law_cell"] spAsked := by
  refine F.ok scAb (fun vs H Q E h => ?_) (fun cdv A oo s H vs Q E hr h => ?_)
  · obtain ⟨_, _, _, _, _, rfl, _⟩ := h
    rfl
  · obtain ⟨nl, c, kd, us, key, rfl, nsl, k⟩ := h
    refine ⟨_, (pss_cons (ps_set (i := 2) scAb.nd rfl (Or.inl rfl) (pe_callB call_abs rfl T.abs' bt_abs (pa_cons (pv 1) pa_nil)))
      (pss_cons (ps_set (i := 3) scAb.nd rfl (Or.inl rfl) (pe_lst (pa_cons (pe_ix ix_list (pv 0) (pe_op op_mod (pv 2) (pe_callB call_len_seq rfl T.len PySem.boot_len (pa_cons (pv 0) pa_nil))) (fun _ _ => rfl)) pa_nil)))
      (pss_cons (ps_set (i := 2) scAb.nd rfl (Or.inl rfl) (pe_op op_fdivB (pv 2) (pe_callB call_len_seq rfl T.len PySem.boot_len (pa_cons (pv 0) pa_nil))))
      (pss_cons (ps_set (i := 4) scAb.nd rfl (Or.inl rfl) (pe_op op_mod (pv 2) pe_int))
      (pss_cons (ps_set (i := 5) scAb.nd rfl (Or.inl rfl) (pe_op op_add pe_int (pe_op op_mod (pe_op op_fdivB (pv 2) pe_int) pe_int)))
      (pss_cons (ps_set (i := 2) scAb.nd rfl (Or.inl rfl) (pe_op op_fdivB (pv 2) pe_int))
      (pss_cons (ps_set (i := 6) scAb.nd rfl (Or.inl rfl) (pe_lst pa_nil))
      (pss_cons (ps_set (i := 7) scAb.nd rfl (Or.inl rfl) (pe_op op_mod (pv 2) pe_int))
      (pss_cons (ps_set (i := 2) scAb.nd rfl (Or.inl rfl) (pe_op op_fdivB (pv 2) pe_int))
      (pss_cons (ps_for PassesOwn.never rfl (pi_range1 rfl T.range (pa_cons (pv 7) pa_nil)) (pg_name (i := 8) scAb.nd rfl (Or.inl rfl)) (pss_cons (ps_expr (pe_bm PySem.F.plainAttrs_list PySem.F.slot_list_append PySem.F.type_list_append mt_append (pv 6) (pa_cons (pe_ix ix_list (pv 0) (pe_op op_mod (pv 2) (pe_callB call_len_seq rfl T.len PySem.boot_len (pa_cons (pv 0) pa_nil))) (fun _ _ => rfl)) pa_nil)))
      (pss_one (ps_set (i := 2) scAb.nd rfl (Or.inl rfl) (pe_op op_fdivB (pv 2) (pe_callB call_len_seq rfl T.len PySem.boot_len (pa_cons (pv 0) pa_nil)))))))
      (pss_one (ps_ret (pe_lst (pa_cons (pe_ix ix_list (pv 3) pe_int (fun _ _ => rfl)) (pa_cons (pv 6) (pa_cons (pv 4) (pa_cons (pv 5) pa_nil))))))))))))))))), ?_⟩
    have u1 := nsl.u1
    have u30 := nsl.u30
    have lp : (0 : Int) < ((us.length : Nat) : Int) := by omega
    have lb : Bt 9000 ((us.length : Nat) : Int) := b9 (by omega) (by omega)
    refine ⟨_, rfl, c, rfl, ?_⟩
    dsimp only [gName]
    generalize (if c < 0 then -c else c) = m
    obtain ⟨v0, hv0, vm⟩ := at_mod m u1
    refine ⟨_, rfl, _, rfl, _, rfl, nl, us, rfl, .inl (SqL.of nsl.l), _, _, rfl, rfl, lp, nl, us, _, v0, rfl, rfl, SqL.of nsl.l, hv0, (by show 1 ≤ sizeLine; decide), fun fl nfl => ?_⟩
    have s1 := Same.upd (o := .lst [v0]) nfl
    have hf1 : upd H fl (.lst [v0]) fl = some (.lst [v0]) := upd_same
    generalize upd H fl (.lst [v0]) = H1 at s1 hf1 ⊢
    have ns1 := nsl.keep s1
    refine ⟨_, rfl, _, rfl, nl, us, rfl, .inl (SqL.of ns1.l), _, _, rfl, rfl, ⟨lp, lb⟩, ?_⟩
    dsimp only [gName]
    generalize m / ((us.length : Nat) : Int) = m2
    refine ⟨_, rfl, _, _, rfl, rfl, (by show (0 : Int) < 61; decide), ?_⟩
    obtain ⟨d0, d61⟩ := emod_in m2 (show (0 : Int) < 61 by decide)
    refine ⟨_, rfl, _, _, rfl, rfl, ⟨by decide, b9⟩, _, _, rfl, rfl, (by show (0 : Int) < 2000; decide), _, _, rfl, rfl, ?_⟩
    obtain ⟨e0, e2⟩ := emod_in (m2 / 61) (show (0 : Int) < 2000 by decide)
    refine ⟨_, rfl, _, _, rfl, rfl, ⟨by decide, b9⟩, ?_⟩
    dsimp only [gName]
    obtain ⟨dp, hdp⟩ := Int.eq_ofNat_of_zero_le d0
    obtain ⟨ms, hms⟩ := Int.eq_ofNat_of_zero_le (show 0 ≤ 1 + m2 / 61 % 2000 by omega)
    rw [hdp, hms]
    generalize m2 / 122000 = m3
    refine ⟨(by show 0 ≤ sizeLine; decide), fun gl ngl => ?_⟩
    have s2 := Same.upd (o := .lst []) ngl
    have hg2 : upd H1 gl (.lst []) gl = some (.lst []) := upd_same
    have hf2 := s2 _ _ hf1
    have s02 := s1.trans s2
    generalize upd H1 gl (.lst []) = H2 at s02 hg2 hf2 ⊢
    have ng0 : H gl = none := sm0 s1 ngl
    have fg : fl ≠ gl := fun z => by rw [z, ngl] at hf1; cases hf1
    refine ⟨_, rfl, _, _, rfl, rfl, (by show (0 : Int) < 4; decide), _, rfl, _, _, rfl, rfl, ⟨by decide, b9⟩, ?_⟩
    obtain ⟨q0, q4⟩ := emod_in m3 (show (0 : Int) < 4 by decide)
    dsimp only [gName]
    generalize m3 % 4 = qn at q0 q4 ⊢
    generalize m3 / 4 = m4
    refine ⟨_, rfl, _, rfl, by omega, by omega, ?_⟩
    refine for_rangeN (fun i σ' H' => ∃ (gs : List V) (x : Int) (v8 : Option V), σ' = [some (.ref nl), some (.int c), some (.int x), some (.ref fl), some (.int ((dp : Nat) : Int)), some (.int ((ms : Nat) : Int)), some (.ref gl), some (.int qn), v8] ∧ Same H H' ∧ H' fl = some (.lst [v0]) ∧ H' gl = some (.lst gs) ∧ gs.length = i ∧ ∀ v ∈ gs, v ∈ us) ⟨[], m4, none, rfl, s02, hf2, hg2, rfl, fun v hv => nomatch hv⟩ ?_ ?_
    rotate_left
    · rintro σ' H3 ⟨gs, x, v8, rfl, s3, hf3, hg3, gl3, gm⟩
      refine ⟨_, rfl, fl, _, 0, v0, rfl, rfl, SqL.of hf3, rfl, _, rfl, _, rfl, _, rfl, (by show 4 ≤ sizeLine; decide), fun p np => ?_⟩
      have s4 := Same.upd (o := .lst [v0, .ref gl, .int ((dp : Nat) : Int), .int ((ms : Nat) : Int)]) np
      exact k p v0 gl gs dp ms _ (s3.trans s4) upd_same vm (s4 _ _ hg3) gm (by omega) (by omega)
    rintro i σ' H3 D' hN hi ⟨gs, x, v8, rfl, s3, hf3, hg3, gl3, gm⟩
    have ns3 := nsl.keep s3
    obtain ⟨v, hv, vm2⟩ := at_mod x u1
    refine ⟨_, rfl, .inl ⟨rfl, _, SqL.of hg3⟩, _, rfl, _, rfl, _, rfl, nl, us, rfl, .inl (SqL.of ns3.l), _, _, rfl, rfl, lp, nl, us, _, v, rfl, rfl, SqL.of ns3.l, hv, gl, gs, v, rfl, rfl, hg3, size2001 (by omega), ?_⟩
    have up : ∀ b o, H3 b = some o → b ≠ gl → upd H3 gl (.lst (gs ++ [v])) b = some o := fun b o e n => by rw [upd_ne n]; exact e
    have nl4 := up nl _ ns3.l fun z => by rw [← z, nsl.l] at ng0; cases ng0
    refine ⟨_, rfl, _, rfl, nl, us, rfl, .inl (SqL.of nl4), _, _, rfl, rfl, ⟨lp, lb⟩, ?_⟩
    refine hN _ _ ⟨gs ++ [v], _, _, rfl, fun b o e => up b o (s3 _ _ e) (ne_of_none e ng0), up _ _ hf3 fg, upd_same, by rw [List.length_append, gl3]; rfl, fun u hu => ?_⟩
    rcases List.mem_append.mp hu with hu | hu
    · exact gm u hu
    · rw [List.mem_singleton.mp hu]; exact vm2
end
end K61

namespace K61
open PySem PySem.Spec PyProof.Rows L2 GM TM BF TR
/-! ### _law_chain -/
def keyI : V → Nd
  | .int i => .inl (.inl i)
  | _ => .inl (.inl 0)
theorem ndI {H : Hp} (i : Int) : NdV false H (.int i) (keyI (.int i)) := ⟨.inl i, rfl, rfl⟩
/-- the steps of a chain as far as j -/
def chE (j : Nat) : Nd → List (V × V)
  | .inl (.inl i) => if 0 ≤ i ∧ i < (j : Int) then [(.str "on", .int (i + 1))] else []
  | _ => []
def chB (many : Nat) : Prm := { key := keyI, E := chE many, goal := fun _ => false, deep := 60, most := 2000 }
def rowC : Nat → Rw
  | 0 => (.int 0, 0, none, .non)
  | i + 1 => (.int ((i + 1 : Nat) : Int), i + 1, some i, .str "on")
def rowsC (j : Nat) : List Rw := (List.range (j + 1)).map rowC
theorem rowC_node (i : Nat) : (rowC i).1 = .int ((i : Nat) : Int) ∧ (rowC i).2.1 = i := by cases i <;> exact ⟨rfl, rfl⟩
theorem rowsC_succ (j : Nat) : rowsC (j + 1) = rowsC j ++ [rowC (j + 1)] := by
  unfold rowsC
  rw [List.range_succ, List.map_append]
  rfl
theorem rowsC_at {j i : Nat} (h : i ≤ j) : (rowsC j)[i]? = some (rowC i) := by
  unfold rowsC
  rw [List.getElem?_map, List.getElem?_range (by omega)]
  rfl
theorem rowsC_len (j : Nat) : (rowsC j).length = j + 1 := by unfold rowsC; rw [List.length_map, List.length_range]
theorem chain_go (many : Nat) : ∀ (d p n : Nat), p + d = min many 60 → d + 2 ≤ n → outer (chB many) n (rowsC p) p = .none (rowsC (min many 60))
  | d, p, 0, _, h => by omega
  | d, p, n + 1, e, h => by
    rw [outer_at (rowsC_at (Nat.le_refl p)), (rowC_node p).2]
    by_cases p60 : p < 60
    · have dd : p < (chB many).deep := p60
      rw [if_pos dd]
      have ek : (chB many).key (rowC p).1 = .inl (.inl ((p : Nat) : Int)) := by rw [(rowC_node p).1]; rfl
      rw [ek]
      by_cases pm : p < many
      · have eE : (chB many).E (.inl (.inl ((p : Nat) : Int))) = [(.str "on", .int (((p : Nat) : Int) + 1))] := if_pos ⟨by omega, by omega⟩
        rw [eE, inner_cons]
        have na : ((rowsC p).any fun r => decide ((chB many).key r.1 = (chB many).key (V.int (((p : Nat) : Int) + 1)))) = false := by
          rw [List.any_eq_false]
          intro r hr
          obtain ⟨i, hi, rfl⟩ := List.mem_map.mp hr
          have il := List.mem_range.mp hi
          rw [decide_eq_true_iff, (rowC_node i).1]
          intro z
          have z' : (Sum.inl (Sum.inl ((i : Nat) : Int)) : Nd) = .inl (.inl (((p : Nat) : Int) + 1)) := z
          injection z' with z'
          injection z' with z'
          omega
        rw [na, if_neg (by decide), if_neg (by rw [rowsC_len]; show ¬ 2000 ≤ p + 1; omega), if_neg (by show ¬ false = true; decide)]
        obtain ⟨d', rfl⟩ : ∃ d', d = d' + 1 := ⟨d - 1, by omega⟩
        have go := chain_go many d' (p + 1) n (by omega) (by omega)
        rw [rowsC_succ] at go
        exact go
      · have eE : (chB many).E (.inl (.inl ((p : Nat) : Int))) = [] := if_neg fun z => by omega
        rw [eE]
        obtain ⟨n', rfl⟩ : ∃ n', n = n' + 1 := ⟨n - 1, by omega⟩
        show outer (chB many) (n' + 1) (rowsC p) (p + 1) = _
        rw [outer_end (by rw [rowsC_len]; exact Nat.le_refl _)]
        rw [show p = min many 60 by omega]
    · rw [if_neg (show ¬ p < (chB many).deep from p60)]
      rw [show p = min many 60 by omega]
theorem chain_bfs (many : Nat) : bfs (chB many) (.int 0) = .none (rowsC (min many 60)) := by
  unfold bfs
  rw [if_neg (by show ¬ false = true; decide)]
  exact chain_go many (min many 60) 0 2001 (by omega) (by omega)
theorem chE_step {j : Nat} : (fun m => if keyI (.int ((j : Nat) : Int)) = m then [(V.str "on", V.int (((j : Nat) : Int) + 1))] else chE j m) = chE (j + 1) := funext fun m => by
  match m with
  | .inl (.inl i) =>
    show (if (Sum.inl (Sum.inl ((j : Nat) : Int)) : Nd) = .inl (.inl i) then _ else (if 0 ≤ i ∧ i < (j : Int) then _ else _)) = if 0 ≤ i ∧ i < ((j + 1 : Nat) : Int) then _ else _
    by_cases e : ((j : Nat) : Int) = i
    · subst e
      rw [if_pos rfl, if_pos (by omega)]
    · rw [if_neg fun z => e (by injection z with z; injection z)]
      by_cases c : 0 ≤ i ∧ i < (j : Int)
      · rw [if_pos c, if_pos (by omega)]
      · rw [if_neg c, if_neg (by omega)]
  | .inl (.inr s) => exact if_neg fun z => by injection z with z; cases z
  | .inr k => exact if_neg fun z => by cases z
theorem chE_end {j : Nat} : (fun m => if keyI (.int ((j : Nat) : Int)) = m then ([] : List (V × V)) else chE j m) = chE j := funext fun m => by
  by_cases e : keyI (.int ((j : Nat) : Int)) = m
  · rw [if_pos e, ← e]
    exact (if_neg (by omega)).symm
  · rw [if_neg e]
/-- the nodes of a chain -/
def chU (j : Nat) : List V := (List.range (j + 1)).map fun i => V.int ((i : Nat) : Int)
theorem chU_mem {j i : Nat} (h : i ≤ j) : V.int ((i : Nat) : Int) ∈ chU j := List.mem_map.mpr ⟨i, List.mem_range.mpr (by omega), rfl⟩
theorem chain_uv {H : Hp} (many : Nat) : Uv false H (chU many) (chB many) := by
  refine ⟨fun v hv => ?_, fun v hv x hx => ?_, (by show 1 ≤ 2000; decide), (by show 2000 ≤ 2000; decide)⟩
  · obtain ⟨i, _, rfl⟩ := List.mem_map.mp hv
    exact ndI _
  · obtain ⟨i, hi, rfl⟩ := List.mem_map.mp hv
    have hx : x ∈ (if 0 ≤ ((i : Nat) : Int) ∧ ((i : Nat) : Int) < (many : Int) then [(V.str "on", V.int (((i : Nat) : Int) + 1))] else []) := hx
    by_cases c : 0 ≤ ((i : Nat) : Int) ∧ ((i : Nat) : Int) < (many : Int)
    · rw [if_pos c] at hx
      rw [List.mem_singleton.mp hx]
      exact ⟨chU_mem (i := i + 1) (by omega), .inl rfl⟩
    · rw [if_neg c] at hx
      cases hx
theorem sfC (j : Nat) : SfR (rowsC j) := fun r hr => by
  obtain ⟨i, _, rfl⟩ := List.mem_map.mp hr
  cases i <;> exact ⟨.inl rfl, .inl rfl⟩
section
variable {P : Program} {w : World} {K : PySem.W.Frag} {mg : Str → Option Value} {base : Heap} {T1 T2 : Addr}
def spChain (T1 T2 : Addr) : Sp := fun vs H Q _ => ∃ m : Nat, vs = [.int ((m : Nat) : Int)] ∧ 1 ≤ m ∧ m ≤ 100 ∧ Tb H T1 T2 ∧ ∀ H', SmN H H' → Tb H' T1 T2 → Q (.bl true) H'
theorem scCh : FnScope ["_law_many", "_law_graph_here", "_law_k", "_law_due"] ["_law_many"] (defScope sChain) := ⟨rfl, rfl, rfl, by decide +kernel, rfl, by decide +kernel, by decide +kernel⟩
theorem ok_chain {f : Addr} {fd : FuncData} (F : Fun K "_law_chain" "_law_chain" sChain f fd) (T : Txt mg) (cTo : Cal P w K mg base CX0 5 "_law_told" ["_law_first", "_law_graph_here", "_law_goals", "_law_deepest", "_law_most"] (spTold P w T1 T2)) : FnOk P w K mg base CX0 6 f fd ["_law_many"] (spChain T1 T2) := by
  refine F.ok scCh (fun vs H Q E h => ?_) (fun cdv A oo s H vs Q E hr h => ?_)
  · obtain ⟨_, rfl, _⟩ := h
    rfl
  · obtain ⟨m, rfl, m1, m100, tb, k⟩ := h
    refine ⟨_, (pss_cons (ps_set (i := 1) scCh.nd rfl (Or.inl rfl) pe_dnewX)
      (pss_cons (ps_for PassesOwn.never rfl (pi_range1 rfl T.range (pa_cons (pv 0) pa_nil)) (pg_name (i := 2) scCh.nd rfl (Or.inl rfl)) (pss_one (ps_dputX (Nat.lt_of_le_of_lt (Nat.add_le_add_left (by decide : 2 ≤ 64) _) hr.units) (pv 1) (pv 2) (pe_lst (pa_cons (pe_tup (pa_cons pe_str (pa_cons (pe_op op_add (pv 2) pe_int) pa_nil))) pa_nil)) rfl)))
      (pss_cons (ps_dputX (Nat.lt_of_le_of_lt (Nat.add_le_add_left (by decide : 2 ≤ 64) _) hr.units) (pv 1) (pv 0) (pe_lst pa_nil) rfl)
      (pss_cons (ps_set (i := 3) scCh.nd rfl (Or.inl rfl) (pe_lst (pa_cons (pe_tup (pa_cons pe_int (pa_cons pe_int (pa_cons pe_non (pa_cons pe_non pa_nil))))) pa_nil)))
      (pss_cons (ps_for PassesOwn.never rfl (pi_range2 rfl T.range (pa_cons pe_int (pa_cons (pe_op op_add (pe_callB (call_min2 rfl) rfl T.min' boot_min (pa_cons (pv 0) (pa_cons pe_int pa_nil))) pe_int) pa_nil))) (pg_name (i := 2) scCh.nd rfl (Or.inl rfl)) (pss_one (ps_expr (pe_bm PySem.F.plainAttrs_list PySem.F.slot_list_append PySem.F.type_list_append mt_append (pv 3) (pa_cons (pe_tup (pa_cons (pv 2) (pa_cons (pv 2) (pa_cons (pe_op op_sub (pv 2) pe_int) (pa_cons pe_str pa_nil))))) pa_nil)))))
      (pss_one (ps_ret (pe_cmpR (op_eqT hr.units) (pe_cal cTo hr rfl pass0 (pa_cons pe_int (pa_cons (pv 1) (pa_cons (pe_lst pa_nil) (pa_cons pe_int (pa_cons pe_int pa_nil)))))) (pe_tup (pa_cons (pv 3) (pa_cons pe_non pa_nil))) (nomark _))))))))), ?_⟩
    dsimp only [tSeq, tAsg]
    refine DX.new (kd := false) fun g o ng dx1 => ?_
    have s1 := Same.upd (o := o) ng
    have gs0 : GS false P w H (upd H g o) g (chE 0) [] 1 := ⟨s1, ng, dx1, (fun n v e => by cases e), (fun n m v e => by cases e), Nat.zero_le _⟩
    generalize upd H g o = H1 at s1 dx1 gs0 ⊢
    refine ⟨_, rfl, _, rfl, by omega, by omega, ?_⟩
    refine for_rangeN (fun i σ' H' => ∃ (kvs : List (Nd × V)) (v2 : Option V), σ' = [some (.int ((m : Nat) : Int)), some (.ref g), v2, none] ∧ GS false P w H H' g (chE i) kvs 1 ∧ kvs.length ≤ i ∧ ∀ j, j < i → (valV kvs (keyI (.int ((j : Nat) : Int)))).isSome = true) ⟨[], none, rfl, gs0, Nat.le_refl _, fun j hj => absurd hj (Nat.not_lt_zero j)⟩ ?_ ?_
    · rintro i σ' H2 D' hN hi ⟨kvs, v2, rfl, gs, kl, hs⟩
      rw [Int.zero_add]
      refine ⟨_, rfl, _, _, rfl, rfl, (by show 2 ≤ sizeLine; decide), fun zt nzt => ⟨(by show 1 ≤ sizeLine; decide), fun z nz => ?_⟩⟩
      have t1 := Same.upd (o := .tup [.str "on", .int (((i : Nat) : Int) + 1)]) nzt
      have t2 := Same.upd (o := .lst [.ref zt]) nz
      have gs2 := gs.keep (t1.trans t2)
      refine ⟨_, rfl, _, rfl, g, rfl, gs2.putG (xs := [(.str "on", .int (((i : Nat) : Int) + 1))]) upd_same (.cons ⟨zt, rfl, t2 _ _ upd_same⟩ .nil) (sm0 (gs.sm.trans t1) nz) ((gs.keep t1).old nz) (by show 1 ≤ 1; decide) (ndI _) (by omega) fun H3 gs3 => hN _ _ ⟨_, _, rfl, by rw [chE_step] at gs3; exact gs3, ?_, fun j hj => ?_⟩⟩
      · have := length_putK kvs (keyI (.int ((i : Nat) : Int))) (.ref z)
        omega
      · rw [valV_put2]
        split
        · rfl
        · rename_i ne
          exact hs j (Nat.lt_of_le_of_ne (Nat.le_of_lt_succ hj) fun z => ne (by rw [z]))
    rintro σ' H2 ⟨kvs, v2, rfl, gs, kl, hs⟩
    rw [show ((m : Nat) : Int).toNat = m by omega] at gs kl hs
    refine ⟨(by show 0 ≤ sizeLine; decide), fun z nz => ⟨_, rfl, _, rfl, g, rfl, gs.put nz (ndI _) (by omega) fun H3 gs3 => ?_⟩⟩
    rw [chE_end] at gs3
    have s03 := gs3.sm
    refine ⟨(by show 4 ≤ sizeLine; decide), fun z0 nz0 => ⟨(by show 1 ≤ sizeLine; decide), fun l nl => ?_⟩⟩
    have t1 := Same.upd (o := .tup [.int 0, .int 0, .non, .non]) nz0
    have t2 := Same.upd (o := .lst [.ref z0]) nl
    have S35 := t1.trans t2
    have nl0 : H3 l = none := sm0 t1 nl
    have hl5 : upd (upd H3 z0 (.tup [.int 0, .int 0, .non, .non])) l (.lst [.ref z0]) l = some (.lst [.ref z0]) := upd_same
    have rw5 : RwL (upd (upd H3 z0 (.tup [.int 0, .int 0, .non, .non])) l (.lst [.ref z0])) [.ref z0] (rowsC 0) := .cons ⟨z0, rfl, t2 _ _ upd_same⟩ .nil
    generalize upd (upd H3 z0 (.tup [.int 0, .int 0, .non, .non])) l (.lst [.ref z0]) = H5 at S35 hl5 rw5 ⊢
    have hs3 : ∀ v ∈ chU m, (valV (putK kvs (keyI (.int ((m : Nat) : Int))) (.ref z)) (keyI v)).isSome = true := fun v hv => by
      obtain ⟨j, hj, rfl⟩ := List.mem_map.mp hv
      have := List.mem_range.mp hj
      rw [valV_put2]
      split
      · rfl
      · rename_i ne
        exact hs j (Nat.lt_of_le_of_ne (by omega) fun z => ne (by rw [z]))
    have mM : ((((if (60 : Int) < ((m : Nat) : Int) then 60 else ((m : Nat) : Int)) + 1) - 1).toNat) = min m 60 := by split <;> omega
    refine ⟨_, rfl, _, _, rfl, _, _, rfl, rfl, 1, _, rfl, ⟨by decide, by decide, by split <;> omega, by split <;> omega⟩, ?_⟩
    refine for_rangeN (fun i σ' H' => ∃ (vs : List V) (v2 : Option V), σ' = [some (.int ((m : Nat) : Int)), some (.ref g), v2, some (.ref l)] ∧ Same H3 H' ∧ H' l = some (.lst vs) ∧ RwL H' vs (rowsC i)) ⟨_, _, rfl, S35, hl5, rw5⟩ ?_ ?_
    · rintro i σ' H6 D' hN hi ⟨vs, v2, rfl, s6, hl6, rw6⟩
      have il : i < 60 := by rw [mM] at hi; omega
      refine ⟨_, rfl, .inl ⟨rfl, _, SqL.of hl6⟩, _, rfl, _, rfl, _, rfl, _, _, rfl, rfl, (by show 4 ≤ sizeLine; decide), fun zr nzr => ?_⟩
      have eq1 : (1 : Int) + ((i : Nat) : Int) = ((i + 1 : Nat) : Int) := by omega
      have eq2 : (1 : Int) + ((i : Nat) : Int) - 1 = ((i : Nat) : Int) := by omega
      have t6 := Same.upd (o := .tup [.int (1 + ((i : Nat) : Int)), .int (1 + ((i : Nat) : Int)), .int (1 + ((i : Nat) : Int) - 1), .str "on"]) nzr
      have hz7 : upd H6 zr (.tup [.int (1 + ((i : Nat) : Int)), .int (1 + ((i : Nat) : Int)), .int (1 + ((i : Nat) : Int) - 1), .str "on"]) zr = some (.tup [.int ((i + 1 : Nat) : Int), .int ((i + 1 : Nat) : Int), .int ((i : Nat) : Int), .str "on"]) := by rw [upd_same, eq2, eq1]
      have hl7 := t6 _ _ hl6
      refine ⟨l, vs, .ref zr, rfl, rfl, hl7, size2001 (by rw [K61.RwL.len rw6, rowsC_len]; omega), hN _ _ ⟨_, _, rfl, fun b o e => ?_, upd_same, ?_⟩⟩
      · rw [upd_ne (ne_of_none e nl0)]
        exact t6 _ _ (s6 _ _ e)
      · rw [rowsC_succ]
        have tk : ∀ b ys, upd H6 zr (.tup [.int (1 + ((i : Nat) : Int)), .int (1 + ((i : Nat) : Int)), .int (1 + ((i : Nat) : Int) - 1), .str "on"]) b = some (.tup ys) → upd (upd H6 zr (.tup [.int (1 + ((i : Nat) : Int)), .int (1 + ((i : Nat) : Int)), .int (1 + ((i : Nat) : Int) - 1), .str "on"])) l (.lst (vs ++ [.ref zr])) b = some (.tup ys) := fun b ys e => by
          rw [upd_ne fun z => by rw [z, hl7] at e; cases e]; exact e
        exact K61.RwL.snoc (r := rowC (i + 1)) ((rw6.keep fun b ys => t6 _ _).keep tk) (tk _ _ hz7)
    rintro σ' H6 ⟨vs, v2, rfl, s6, hl6, rw6⟩
    rw [mM] at rw6
    refine ⟨_, rfl, (by show 0 ≤ sizeLine; decide), fun gl ngl => ?_⟩
    have t7 := Same.upd (o := .lst []) ngl
    have s37 := s6.trans t7
    have gs7 := gs3.keep s37
    have hg7 : upd H6 gl (.lst []) gl = some (.lst []) := upd_same
    have hl7 := t7 _ _ hl6
    have rw7 := rw6.keep fun b ys => t7 _ _
    generalize upd H6 gl (.lst []) = H7 at s37 gs7 hg7 hl7 rw7 ⊢
    have gv : Gv false P w H7 g gl (chU m) (chB m) := by
      refine ⟨⟨_, gs7.dx, fun v hv => ?_⟩, [], hg7, (fun v hv => nomatch hv), fun n => rfl⟩
      obtain ⟨x, hx⟩ := Option.isSome_iff_exists.mp (hs3 v hv)
      obtain ⟨la, es, e, q1, q2, _⟩ := gs7.at' _ x hx
      exact ⟨la, es, by rw [← e]; exact hx, q1, q2⟩
    refine ⟨.int 0, g, gl, false, chU m, chB m, rfl, tb.keep gs7.sm, chain_uv m, chU_mem (Nat.zero_le m), gv, ?_⟩
    rw [chain_bfs]
    intro z9 l9 vs9 H9 s9 tb9 hz9 hl9 rw9
    refine ⟨_, rfl, (by show 2 ≤ sizeLine; decide), fun zz nzz => ?_⟩
    have tA := Same.upd (o := .tup [.ref l, .non]) nzz
    have tw : TwoR (upd H9 zz (.tup [.ref l, .non])) z9 zz (rowsC (min m 60)) .non := ⟨⟨l9, vs9, tA _ _ hz9, tA _ _ hl9, rw9.keep fun b ys => tA _ _⟩, ⟨l, vs, upd_same, tA _ _ (s9.ls hl7), (rw7.keep s9.tk).keep fun b ys => tA _ _⟩, sfC _, .inl rfl⟩
    obtain ⟨xs, ys, h1, h2, lx, ly, deq⟩ := tw.deq (K := K)
    refine ⟨z9, zz, xs, ys, fun _ => true, rfl, rfl, SqT.of h1, SqT.of h2, deq, ?_⟩
    rw [all_true _ _ (by rw [lx, ly])]
    exact k _ (((SmN.of gs7.sm).trans s9).trans (.of tA)) (tb9.keep tA)
end
end K61

namespace L2
open PySem PySem.Spec PyProof.Rows PySem.W
/-- a comprehension over a range, with a state of its own -/
theorem comp_rngI {lo : Int} {n : Nat} {D : Addr} {g : TG} {te : TE} {σ0 : St} {QD : Hp → Prop} {H1 : Hp} (Pv : Nat → List V → Hp → Prop) (h0 : Pv 0 [] (upd H1 D (.lst []))) (hD : ∀ i ys H, i ≤ n → Pv i ys H → H D = some (.lst ys) ∧ ys.length < sizeLine)
    (hs : ∀ i ys H (R : VK), i < n → Pv i ys H → (∀ y H4, H4 D = some (.lst ys) → Pv (i + 1) (ys ++ [y]) (upd H4 D (.lst (ys ++ [y]))) → R y H4) → g (.int (lo + (i : Nat))) σ0 H fun σ2 H2 => Keep σ0 σ2 ∧ te σ2 H2 R)
    (hd : ∀ ys H, Pv n ys H → QD H) :
    ∃ W : Nat → Nat → List V → Hp → Prop, (∃ m, W 0 m [] (upd H1 D (.lst []))) ∧ ∀ i m ys H, W i m ys H → H D = some (.lst ys) ∧ ys.length < sizeLine ∧
      (((Itr lo n).stop i H ∧ QD H) ∨ ((Itr lo n).go i H ∧ ∀ x H', (Itr lo n).yld i H x H' → g x σ0 H' fun σ2 H2 => Keep σ0 σ2 ∧ tNoIf σ2 H2 fun b H3 =>
        if b = true then te σ2 H3 fun y H4 => H4 D = some (.lst ys) ∧ ∃ m', m' < m ∧ W (i + 1) m' (ys ++ [y]) (upd H4 D (.lst (ys ++ [y]))) else ∃ m', m' < m ∧ W (i + 1) m' ys H3)) := by
  refine ⟨fun i m ys H => m = n - i ∧ i ≤ n ∧ Pv i ys H, ⟨_, rfl, Nat.zero_le _, h0⟩, ?_⟩
  rintro i m ys H ⟨rfl, hi, pv⟩
  obtain ⟨h1, h2⟩ := hD i ys H hi pv
  refine ⟨h1, h2, ?_⟩
  by_cases hlt : i < n
  · refine .inr ⟨hlt, fun x H' y => ?_⟩
    obtain ⟨rfl, rfl⟩ := y
    exact hs i ys H' _ hlt pv fun y H4 a b => ⟨a, n - (i + 1), by omega, rfl, hlt, b⟩
  · have e : i = n := by omega
    subst e
    exact .inl ⟨Nat.le_refl _, hd ys H pv⟩
end L2

namespace K61
open PySem PySem.Spec PyProof.Rows L2 GM TM BF TR
/-! ### _law_star -/
def stS (k : Nat) : V × V := (.str "to", .int (((k : Nat) : Int) + 1))
def stE (many : Nat) : Nd → List (V × V) := fun n => if n = .inl (.inl 0) then (List.range' 0 many).map stS else []
def stB (many : Nat) : Prm := { key := keyI, E := stE many, goal := fun _ => false, deep := 60, most := 2000 }
def rowS (k : Nat) : Rw := (.int (((k : Nat) : Int) + 1), 1, some 0, .str "to")
def rowsS (j : Nat) : List Rw := (.int 0, 0, none, .non) :: (List.range' 0 j).map rowS
theorem rowsS_len (j : Nat) : (rowsS j).length = j + 1 := by unfold rowsS; rw [List.length_cons, List.length_map, List.length_range']
theorem rowsS_succ (j : Nat) : rowsS (j + 1) = rowsS j ++ [rowS j] := by
  unfold rowsS
  rw [List.range'_1_concat, List.map_append, Nat.zero_add]
  rfl
theorem rowsS_at {j i : Nat} (h : i < j) : (rowsS j)[i + 1]? = some (rowS i) := by
  unfold rowsS
  rw [List.getElem?_cons_succ, List.getElem?_map, List.getElem?_range' h]
  show some (rowS (0 + 1 * i)) = _
  rw [show 0 + 1 * i = i by omega]
theorem star_new {many j : Nat} : ((rowsS j).any fun r => decide ((stB many).key r.1 = (stB many).key (stS j).2)) = false := by
  rw [List.any_eq_false]
  intro r hr
  rw [decide_eq_true_iff]
  rcases List.mem_cons.mp hr with rfl | hr
  · intro z
    have z' : (Sum.inl (Sum.inl (0 : Int)) : Nd) = .inl (.inl (((j : Nat) : Int) + 1)) := z
    injection z' with z'
    injection z' with z'
    omega
  · obtain ⟨i, hi, rfl⟩ := List.mem_map.mp hr
    have il := List.mem_range'_1.mp hi
    intro z
    have z' : (Sum.inl (Sum.inl (((i : Nat) : Int) + 1)) : Nd) = .inl (.inl (((j : Nat) : Int) + 1)) := z
    injection z' with z'
    injection z' with z'
    omega
theorem star_few {many : Nat} (h : many ≤ 1999) : ∀ (d j : Nat), j + d = many → inner (stB many) 0 0 (rowsS j) ((List.range' j d).map stS) = .inl (rowsS many)
  | 0, j, e => by
    rw [← e]
    rfl
  | d + 1, j, e => by
    rw [List.range'_succ, List.map_cons, inner_cons, star_new, if_neg (by decide), if_neg (by rw [rowsS_len]; show ¬ 2000 ≤ j + 1; omega), if_neg (by show ¬ false = true; decide)]
    have q := star_few h d (j + 1) (by omega)
    rw [rowsS_succ] at q
    exact q
theorem star_many {many : Nat} (h : 2000 ≤ many) : ∀ (d j : Nat), j + d = many → j < 2000 → inner (stB many) 0 0 (rowsS j) ((List.range' j d).map stS) = .inr .many
  | 0, j, e, l => by omega
  | d + 1, j, e, l => by
    rw [List.range'_succ, List.map_cons, inner_cons, star_new, if_neg (by decide)]
    by_cases c : 2000 ≤ j + 1
    · rw [if_pos (by rw [rowsS_len]; exact c)]
    · rw [if_neg (by rw [rowsS_len]; exact c), if_neg (by show ¬ false = true; decide)]
      have q := star_many h d (j + 1) (by omega) (by omega)
      rw [rowsS_succ] at q
      exact q
theorem star_leaf {many : Nat} : ∀ (d p n : Nat), p + d = many → d + 1 ≤ n → outer (stB many) n (rowsS many) (p + 1) = .none (rowsS many)
  | d, p, 0, _, h => by omega
  | 0, p, n + 1, e, h => outer_end (by rw [rowsS_len]; omega)
  | d + 1, p, n + 1, e, h => by
    rw [outer_at (rowsS_at (show p < many by omega)), if_pos (show (rowS p).2.1 < (stB many).deep by show 1 < 60; decide)]
    have ek : (stB many).E ((stB many).key (rowS p).1) = [] := by
      show (if (Sum.inl (Sum.inl (((p : Nat) : Int) + 1)) : Nd) = .inl (.inl 0) then (List.range' 0 many).map stS else []) = []
      refine if_neg fun z => ?_
      have z' : (Sum.inl (Sum.inl (((p : Nat) : Int) + 1)) : Nd) = .inl (.inl 0) := z
      injection z' with z'
      injection z' with z'
      omega
    rw [ek]
    exact star_leaf d (p + 1) n (by omega) (by omega)
theorem star_bfs {many : Nat} : bfs (stB many) (.int 0) = if 2000 ≤ many then .many else .none (rowsS many) := by
  unfold bfs
  rw [if_neg (by show ¬ false = true; decide)]
  show outer (stB many) 2001 (rowsS 0) 0 = _
  rw [outer_at (r := (.int 0, 0, none, .non)) rfl, if_pos (by show 0 < 60; decide)]
  have ek : (stB many).E ((stB many).key (.int 0)) = (List.range' 0 many).map stS := by
    show (if (Sum.inl (Sum.inl 0) : Nd) = .inl (.inl 0) then (List.range' 0 many).map stS else []) = _
    exact if_pos rfl
  show nxR _ _ _ (inner _ _ _ _ ((stB many).E ((stB many).key (.int 0)))) = _
  rw [ek]
  show nxR (stB many) 2000 0 (inner (stB many) 0 0 (rowsS 0) ((List.range' 0 many).map stS)) = _
  by_cases c : 2000 ≤ many
  · rw [star_many c many 0 (by omega) (by omega), if_pos c]
    rfl
  · rw [star_few (by omega) many 0 (by omega), if_neg c]
    exact star_leaf many 0 2000 (by omega) (by omega)
theorem stE_end {many j : Nat} : (fun m => if keyI (.int (((j : Nat) : Int) + 1)) = m then ([] : List (V × V)) else stE many m) = stE many := funext fun m => by
  by_cases e : keyI (.int (((j : Nat) : Int) + 1)) = m
  · rw [if_pos e, ← e]
    exact (if_neg fun z => by
      have z' : (Sum.inl (Sum.inl (((j : Nat) : Int) + 1)) : Nd) = .inl (.inl 0) := z
      injection z' with z'
      injection z' with z'
      omega).symm
  · rw [if_neg e]
theorem star_uv {H : Hp} (many : Nat) : Uv false H (chU many) (stB many) := by
  refine ⟨fun v hv => ?_, fun v hv x hx => ?_, (by show 1 ≤ 2000; decide), (by show 2000 ≤ 2000; decide)⟩
  · obtain ⟨i, _, rfl⟩ := List.mem_map.mp hv
    exact ndI _
  · have hx : x ∈ (if (stB many).key v = .inl (.inl 0) then (List.range' 0 many).map stS else []) := hx
    by_cases c : (stB many).key v = .inl (.inl 0)
    · rw [if_pos c] at hx
      obtain ⟨k, hk, rfl⟩ := List.mem_map.mp hx
      have := List.mem_range'_1.mp hk
      exact ⟨chU_mem (i := k + 1) (by omega), .inl rfl⟩
    · rw [if_neg c] at hx
      cases hx
theorem tup2_self {K : PySem.W.Frag} {H : Hp} {xs : List V} (h : ∀ v ∈ xs, Sf v) (j : Nat) (x y : V) (hx : xs[j]? = some x) (hy : xs[j]? = some y) : DEq K H 40 x y true := by
  rw [hx] at hy
  cases hy
  exact DEq.self (h x (List.mem_of_getElem? hx))
theorem ndSt : (["_law_k"] : List Str).Nodup := by decide +kernel
section
variable {P : Program} {w : World} {K : PySem.W.Frag} {mg : Str → Option Value} {base : Heap} {T1 T2 : Addr}
def spStar (T1 T2 : Addr) : Sp := fun vs H Q _ => ∃ m : Nat, vs = [.int ((m : Nat) : Int)] ∧ m ≤ 2000 ∧ Tb H T1 T2 ∧ ∀ H', SmN H H' → Tb H' T1 T2 → Q (.bl true) H'
theorem scSt : FnScope ["_law_many", "_law_graph_here", "_law_k", "_law_found"] ["_law_many"] (defScope sStar) := ⟨rfl, rfl, rfl, by decide +kernel, rfl, by decide +kernel, by decide +kernel⟩
theorem ok_star {f : Addr} {fd : FuncData} (F : Fun K "_law_star" "_law_star" sStar f fd) (T : Txt mg) (cTo : Cal P w K mg base CX0 5 "_law_told" ["_law_first", "_law_graph_here", "_law_goals", "_law_deepest", "_law_most"] (spTold P w T1 T2)) : FnOk P w K mg base CX0 6 f fd ["_law_many"] (spStar T1 T2) := by
  refine F.ok scSt (fun vs H Q E h => ?_) (fun cdv A oo s H vs Q E hr h => ?_)
  · obtain ⟨_, rfl, _⟩ := h
    rfl
  · obtain ⟨m, rfl, m2, tb, k⟩ := h
    refine ⟨_, (pss_cons (ps_set (i := 1) scSt.nd rfl (Or.inl rfl) (pe_disp (pps_cons pe_int (pe_comp (N' := ["_law_k"]) (cl := []) (fun _ => [none]) rfl rfl (by decide +kernel) (by decide +kernel) (clOk_none (by decide +kernel)) (fun _ _ => blkN_none)
          (pi_range1 rfl T.range (pa_cons (pv 0) pa_nil)) (fun _ _ _ _ _ => pg_name (i := 0) ndSt rfl (Or.inl rfl)) (fun _ _ _ _ _ => pifs_nil) (fun _ _ _ _ _ => pe_tup (pa_cons pe_str (pa_cons (pe_op op_add (pv 0) pe_int) pa_nil)))) pps_nil) rfl rfl (by simp) (by simp)))
      (pss_cons (ps_for PassesOwn.never rfl (pi_range1 rfl T.range (pa_cons (pv 0) pa_nil)) (pg_name (i := 2) scSt.nd rfl (Or.inl rfl)) (pss_one (ps_dputX (Nat.lt_of_le_of_lt (Nat.add_le_add_left (by decide : 2 ≤ 64) _) hr.units) (pv 1) (pe_op op_add (pv 2) pe_int) (pe_lst pa_nil) rfl)))
      (pss_cons (ps_set (i := 3) scSt.nd rfl (Or.inl rfl) (pe_cal cTo hr rfl pass0 (pa_cons pe_int (pa_cons (pv 1) (pa_cons (pe_lst pa_nil) (pa_cons pe_int (pa_cons pe_int pa_nil)))))))
      (pss_cons (ps_if (pt_cmpR op_gt (pv 0) pe_int (nomark _)) (pss_one (ps_ret (pe_cmpR (op_eqT hr.units) (pv 3) (pe_tup (pa_cons pe_str (pa_cons pe_int pa_nil))) (nomark _)))) pss_nil)
      (pss_cons (ps_if (PW.pt (pw_or (pt_not (pt_val (pe_callB call_isi rfl T.isi boot_isinstance (pa_cons (pv 3) (pa_cons (pe_bltn (v := .ty "tuple") rfl T.tup' bt_tuple rfl) pa_nil))))) (pw_or (pt_cmpR op_ne (pe_callB call_len_seq rfl T.len PySem.boot_len (pa_cons (pv 3) pa_nil)) pe_int (nomark _)) (pw_or (pt_cmpR op_notN (pit 3 1) pe_non (nomark _)) (pw_or1 (pt_cmpR op_ne (pe_callB call_len_seq rfl T.len PySem.boot_len (pa_cons (pit 3 0) pa_nil)) (pe_op op_add (pv 0) pe_int) (nomark _))))))) (pss_one (ps_ret pe_bl)) pss_nil)
      (pss_cons (ps_for PassesOwn.never rfl (pi_range1 rfl T.range (pa_cons (pv 0) pa_nil)) (pg_name (i := 2) scSt.nd rfl (Or.inl rfl)) (pss_one (ps_if (pt_cmpR (op_neT hr.units) (pe_ix ix_list (pit 3 0) (pe_op op_add (pv 2) pe_int) (fun _ _ => rfl)) (pe_tup (pa_cons (pe_op op_add (pv 2) pe_int) (pa_cons pe_int (pa_cons pe_int (pa_cons pe_str pa_nil))))) (nomark _)) (pss_one (ps_ret pe_bl)) pss_nil)))
      (pss_one (ps_ret (pe_cmpR (op_eqT hr.units) (pe_ix ix_list (pit 3 0) pe_int (fun _ _ => rfl)) (pe_tup (pa_cons pe_int (pa_cons pe_int (pa_cons pe_non (pa_cons pe_non pa_nil))))) (nomark _)))))))))), ?_⟩
    dsimp only [tSeq, tAsg]
    refine fun g ng => ?_
    have s1 := Same.upd (o := .dK []) ng
    have hg1 : upd H g (.dK []) g = some (.dK []) := upd_same
    generalize eH1 : upd H g (.dK []) = H1 at s1 hg1 ⊢
    refine ⟨_, rfl, _, rfl, by omega, by omega, fun D nD => ?_⟩
    have em : ((m : Nat) : Int).toNat = m := by omega
    have gD : D ≠ g := fun z => by rw [z, hg1] at nD; cases nD
    rw [em]
    refine comp_rngI (fun i ys H' => Same H1 H' ∧ H' D = some (.lst ys) ∧ EdL H' ys ((List.range' 0 i).map stS) ∧ ys.length = i) ⟨Same.upd nD, upd_same, .nil, rfl⟩ (fun i ys H' hi hh => ⟨hh.2.1, size2001 (by rw [hh.2.2.2]; omega)⟩) (fun i ys H' R hi hh hR => ?_) (fun ys H2 hh => ?_)
    · obtain ⟨s2, hD2, ed2, ly⟩ := hh
      refine ⟨(Keep.refl _).set rfl, ?_⟩
      refine ⟨_, rfl, _, _, rfl, rfl, (by show 2 ≤ sizeLine; decide), fun zt nzt => ?_⟩
      rw [Int.zero_add]
      have t1 := Same.upd (o := .tup [.str "to", .int (((i : Nat) : Int) + 1)]) nzt
      have hz1 : upd H' zt (.tup [.str "to", .int (((i : Nat) : Int) + 1)]) zt = some (.tup [.str "to", .int (((i : Nat) : Int) + 1)]) := upd_same
      generalize upd H' zt (.tup [.str "to", .int (((i : Nat) : Int) + 1)]) = H3 at t1 hz1 ⊢
      have hD3 := t1 _ _ hD2
      have tk : ∀ b ys', H3 b = some (.tup ys') → upd H3 D (.lst (ys ++ [.ref zt])) b = some (.tup ys') := fun b ys' e => by
        rw [upd_ne fun z => by rw [z, hD3] at e; cases e]; exact e
      refine hR _ _ hD3 ⟨fun b o e => ?_, upd_same, ?_, by rw [List.length_append, ly]; rfl⟩
      · rw [upd_ne (ne_of_none e nD)]
        exact t1 _ _ (s2 _ _ e)
      · rw [List.range'_1_concat, List.map_append, Nat.zero_add]
        exact Paired.snoc ((ed2.keep fun b ys => t1 _ _).keep tk) ⟨zt, rfl, tk _ _ hz1⟩
    obtain ⟨s2, hD2, ed2, ly⟩ := hh
    have hg2 := s2 _ _ hg1
    refine ⟨hg2, [(.inl 0, .ref D)], rfl, (by show 1 ≤ 15; decide), ?_⟩
    have s03 : Same H (upd H2 g (.dK (mergeK [] [(.inl 0, .ref D)]))) := fun b o e => by
      rw [upd_ne (ne_of_none e ng)]
      exact s2 _ _ (s1 _ _ e)
    have hg3 : upd H2 g (.dK (mergeK [] [(.inl 0, .ref D)])) g = some (.dK [(.inl 0, .ref D)]) := upd_same
    have tk3 : ∀ b ys', H2 b = some (.tup ys') → upd H2 g (.dK (mergeK [] [(.inl 0, .ref D)])) b = some (.tup ys') := fun b ys' e => by
      rw [upd_ne fun z => by rw [z, hg2] at e; cases e]; exact e
    have ed3 := ed2.keep tk3
    have hD3 : upd H2 g (.dK (mergeK [] [(.inl 0, .ref D)])) D = some (.lst ys) := by rw [upd_ne gD]; exact hD2
    have nD0 : H D = none := sm0 s1 nD
    generalize upd H2 g (.dK (mergeK [] [(.inl 0, .ref D)])) = H3 at s03 hg3 ed3 hD3 ⊢
    have gs0 : GS false P w H H3 g (stE m) [(.inl (.inl 0), .ref D)] 2000 := by
      refine ⟨s03, ng, ⟨[(.inl 0, .ref D)], rfl, hg3⟩, fun n v e => ?_, fun n n' v e e' => ?_, (by show 1 ≤ 2500; decide)⟩
      · by_cases c : (Sum.inl (Sum.inl (0 : Int)) : Nd) = n
        · rw [valV_pos c] at e
          cases e
          exact ⟨D, ys, rfl, hD3, by rw [← c]; exact ed3, nD0, by rw [ly]; omega⟩
        · rw [valV_neg c] at e
          cases e
      · by_cases c : (Sum.inl (Sum.inl (0 : Int)) : Nd) = n
        · by_cases c' : (Sum.inl (Sum.inl (0 : Int)) : Nd) = n'
          · rw [← c, ← c']
          · rw [valV_neg c'] at e'
            cases e'
        · rw [valV_neg c] at e
          cases e
    refine ⟨_, rfl, _, rfl, by omega, by omega, ?_⟩
    refine for_rangeN (fun i σ' H' => ∃ (kvs : List (Nd × V)) (v2 : Option V), σ' = [some (.int ((m : Nat) : Int)), some (.ref g), v2, none] ∧ GS false P w H H' g (stE m) kvs 2000 ∧ kvs.length ≤ i + 1 ∧ ∀ j, j ≤ i → (valV kvs (keyI (.int ((j : Nat) : Int)))).isSome = true) ⟨_, none, rfl, gs0, Nat.le_refl _, fun j hj => ?_⟩ ?_ ?_
    · rw [show j = 0 by omega, valV_pos (show (Sum.inl (Sum.inl (0 : Int)) : Nd) = keyI (.int ((0 : Nat) : Int)) from rfl)]
      rfl
    · rintro i σ' H4 D' hN hi ⟨kvs, v2, rfl, gs, kl, hs⟩
      rw [em] at hi
      rw [Int.zero_add]
      refine ⟨(by show 0 ≤ sizeLine; decide), fun z nz => ⟨_, rfl, _, rfl, _, _, rfl, rfl, g, rfl, gs.put nz (ndI _) (by omega) fun H5 gs5 => hN _ _ ⟨_, _, rfl, by rw [stE_end] at gs5; exact gs5, ?_, fun j hj => ?_⟩⟩⟩
      · have := length_putK kvs (keyI (.int (((i : Nat) : Int) + 1))) (.ref z)
        omega
      · rw [valV_put2]
        split
        · rfl
        · rename_i ne
          exact hs j (Nat.le_of_lt_succ (Nat.lt_of_le_of_ne hj fun z => ne (by rw [z]; rfl)))
    rintro σ' H4 ⟨kvs, v2, rfl, gs, kl, hs⟩
    rw [em] at kl hs
    refine ⟨_, rfl, (by show 0 ≤ sizeLine; decide), fun gl ngl => ?_⟩
    have gs7 := gs.keep (Same.upd (o := .lst []) ngl)
    have hg7 : upd H4 gl (.lst []) gl = some (.lst []) := upd_same
    generalize upd H4 gl (.lst []) = H7 at gs7 hg7 ⊢
    have gv : Gv false P w H7 g gl (chU m) (stB m) := by
      refine ⟨⟨_, gs7.dx, fun v hv => ?_⟩, [], hg7, (fun v hv => nomatch hv), fun n => rfl⟩
      obtain ⟨i, hi, rfl⟩ := List.mem_map.mp hv
      obtain ⟨x, hx⟩ := Option.isSome_iff_exists.mp (hs i (by have := List.mem_range.mp hi; omega))
      obtain ⟨la, es, e, q1, q2, _⟩ := gs7.at' _ x hx
      exact ⟨la, es, by rw [← e]; exact hx, q1, q2⟩
    refine ⟨.int 0, g, gl, false, chU m, stB m, rfl, tb.keep gs7.sm, star_uv m, chU_mem (Nat.zero_le m), gv, ?_⟩
    rw [star_bfs]
    by_cases c : 2000 ≤ m
    · rw [if_pos c]
      intro z9 H9 s9 tb9 hz9
      refine ⟨_, rfl, _, _, rfl, rfl, _, rfl, ite2 (fun _ => ?_) (fun h => absurd (decide_eq_true (by omega)) h)⟩
      refine ⟨_, rfl, (by show 2 ≤ sizeLine; decide), fun zz nzz => ?_⟩
      have tA := Same.upd (o := .tup [.str "many", .int 2000]) nzz
      refine ⟨z9, zz, _, _, fun _ => true, rfl, rfl, SqT.of (tA _ _ hz9), SqT.of upd_same, tup2_self (xs := [.str "many", .int 2000]) (List.forall_mem_cons.mpr ⟨.inl rfl, List.forall_mem_cons.mpr ⟨.inl rfl, fun _ h => nomatch h⟩⟩), ?_⟩
      exact k _ (((SmN.of gs7.sm).trans s9).trans (.of tA)) (tb9.keep tA)
    · rw [if_neg c]
      intro z9 l9 vs9 H9 s9 tb9 hz9 hl9 rw9
      have lv : vs9.length = m + 1 := by rw [K61.RwL.len rw9, rowsS_len]
      refine ⟨_, rfl, _, _, rfl, rfl, _, rfl, ite2 (fun h => absurd (of_decide_eq_true h) (by omega)) (fun _ => ?_)⟩
      refine ⟨_, rfl, _, "tuple", true, rfl, .tup_tuple (SqT.of hz9), _, rfl, iteF ⟨_, rfl, z9, _, rfl, .inr (SqT.of hz9), rfl, _, rfl, iteF ⟨z9, _, _, rfl, SqT.of hz9, rfl, rfl, _, rfl, iteF ⟨z9, _, _, rfl, SqT.of hz9, rfl, l9, vs9, rfl, .inl (SqL.of hl9), _, rfl, _, _, rfl, rfl, rfl, _, rfl, ite2 (fun h => absurd h ?_) (fun _ => ?_)⟩⟩⟩⟩
      · rw [lv]
        simp
      refine ⟨_, rfl, _, rfl, by omega, by omega, ?_⟩
      have s09 := (SmN.of gs7.sm).trans s9
      refine for_rangeN (fun i σ' H' => ∃ v2, σ' = [some (.int ((m : Nat) : Int)), some (.ref g), v2, some (.ref z9)] ∧ Same H9 H') ⟨_, rfl, fun _ _ e => e⟩ ?_ ?_
      · rintro i σ' HA D' hN hi ⟨v2, rfl, sA⟩
        rw [em] at hi
        obtain ⟨_, e1, ra, rfl, hra⟩ := paired_at rw9 (rowsS_at (j := m) hi)
        have hat : atI vs9 (0 + ((i : Nat) : Int) + 1) = some (.ref ra) := by
          rw [show 0 + ((i : Nat) : Int) + 1 = ((i + 1 : Nat) : Int) by omega]; exact atI_nat e1
        refine ⟨z9, _, _, rfl, SqT.of (sA _ _ hz9), rfl, _, rfl, _, _, rfl, rfl, l9, vs9, _, .ref ra, rfl, rfl, SqL.of (sA _ _ hl9), hat, _, rfl, _, _, rfl, rfl, (by show 4 ≤ sizeLine; decide), fun zz nzz => ?_⟩
        rw [Int.zero_add]
        have tA := Same.upd (o := .tup [.int (((i : Nat) : Int) + 1), .int 1, .int 0, .str "to"]) nzz
        refine ⟨ra, zz, _, _, fun _ => true, rfl, rfl, SqT.of (tA _ _ (sA _ _ hra)), SqT.of upd_same, tup2_self (xs := [.int (((i : Nat) : Int) + 1), .int 1, .int 0, .str "to"]) (List.forall_mem_cons.mpr ⟨.inl rfl, List.forall_mem_cons.mpr ⟨.inl rfl, List.forall_mem_cons.mpr ⟨.inl rfl, List.forall_mem_cons.mpr ⟨.inl rfl, fun _ h => nomatch h⟩⟩⟩⟩), ?_⟩
        exact ⟨_, rfl, iteF (hN _ _ ⟨_, rfl, sA.trans tA⟩)⟩
      · rintro σ' HA ⟨v2, rfl, sA⟩
        obtain ⟨_, e1, ra, rfl, hra⟩ := paired_at rw9 (i := 0) (b := (.int 0, 0, none, .non)) rfl
        refine ⟨z9, _, _, rfl, SqT.of (sA _ _ hz9), rfl, l9, vs9, 0, .ref ra, rfl, rfl, SqL.of (sA _ _ hl9), atI_nat (j := 0) e1, (by show 4 ≤ sizeLine; decide), fun zz nzz => ?_⟩
        have tA := Same.upd (o := .tup [.int 0, .int 0, .non, .non]) nzz
        refine ⟨ra, zz, _, _, fun _ => true, rfl, rfl, SqT.of (tA _ _ (sA _ _ hra)), SqT.of upd_same, tup2_self (xs := [.int 0, .int 0, .non, .non]) (List.forall_mem_cons.mpr ⟨.inl rfl, List.forall_mem_cons.mpr ⟨.inl rfl, List.forall_mem_cons.mpr ⟨.inl rfl, List.forall_mem_cons.mpr ⟨.inl rfl, fun _ h => nomatch h⟩⟩⟩⟩), ?_⟩
        exact k _ ((s09.trans (.of sA)).trans (.of tA)) ((tb9.keep sA).keep tA)
end
end K61

namespace L2
open PySem PySem.Spec PyProof.Rows
/-- a or b, of any values -/
def tOrT (K : PySem.W.Frag) (ta tb : TE) : TE := fun σ H Q => ta σ H fun x H1 => ∃ k, TruV K x H1 k ∧ if k = true then Q x H1 else tb σ H1 Q
end L2

namespace L2
open PySem PySem.Spec PyProof.Rows PySem.W
end L2

namespace L2
open PySem PySem.Spec PyProof.Rows
section
variable {X : Cx} {pos : Pos}
/-- (a, b, ..) = a list of that length -/
def gTupM (K : PySem.W.Frag) (n : Nat) (t : TGs) : TG := fun v σ H Q => ∃ a xs, v = .ref a ∧ SqL K H a xs ∧ xs.length = n ∧ t xs σ H Q
theorem pg_tupM {es : List Expr} {k : Nat} {t : TGs} {n : Nat} (hc : X.calm = true) (h : PGs X es t)
    (hn : (assignEach es X.env).length = n := by rfl) (hst : (assignEach es X.env).findIdx? (·.1) = none := by rfl) : PG X (.Tuple es k pos) (gTupM X.K n t) := by
  intro pins s σ H v u Q I r hw
  obtain ⟨a, xs, e1, hq, hl, hw⟩ := hw
  subst e1
  cases r
  obtain ⟨its, rv, ⟨o, n', ho, hcl, _, hd⟩, hz⟩ := I.list hq
  have ht : s.heap.IsList a its.toArray := ⟨o, ho, hcl, n', hd⟩
  rw [assign_Tuple]
  refine wpAny_bind (wpAny_standAt ?_)
  unfold unpack
  have e2 : (assignEach es X.env).length = its.toArray.size := by simp [hn, ← hl, rv.length]
  rw [e2, hst]
  refine wpAny_bind (wpAny_holding (PySem.W.kun_itemsOf (I.ok.hd hc) ht fun h' hx => ?_))
  have I1 : Inv X pins σ H { s with heap := h' } := I.kept (t' := s.toks) fun b o e => hx b o (Nat.ne_of_lt (Heap.lt_size e)) e
  exact h pins _ σ H xs _ Q I1 (by simpa using rv) hw
end
end L2

namespace L2
open PySem PySem.Spec PyProof.Rows
/-! ### the statements of a def under names: what follows stays small -/
section
variable {D : Ends} {σ : L2.St} {H : Hp}
theorem cut18 {t1 t2 t3 t4 t5 t6 t7 t8 t9 t10 t11 t12 t13 t14 t15 t16 t17 t18 : TS} (h : let u18 : TS := t18; let u17 : TS := tSeq t17 u18; let u16 : TS := tSeq t16 u17; let u15 : TS := tSeq t15 u16; let u14 : TS := tSeq t14 u15; let u13 : TS := tSeq t13 u14; let u12 : TS := tSeq t12 u13; let u11 : TS := tSeq t11 u12; let u10 : TS := tSeq t10 u11; let u9 : TS := tSeq t9 u10; let u8 : TS := tSeq t8 u9; let u7 : TS := tSeq t7 u8; let u6 : TS := tSeq t6 u7; let u5 : TS := tSeq t5 u6; let u4 : TS := tSeq t4 u5; let u3 : TS := tSeq t3 u4; let u2 : TS := tSeq t2 u3; tSeq t1 u2 D σ H) : (tSeq t1 (tSeq t2 (tSeq t3 (tSeq t4 (tSeq t5 (tSeq t6 (tSeq t7 (tSeq t8 (tSeq t9 (tSeq t10 (tSeq t11 (tSeq t12 (tSeq t13 (tSeq t14 (tSeq t15 (tSeq t16 (tSeq t17 (t18)))))))))))))))))) D σ H := h
end
end L2

namespace K61
open PySem PySem.Spec PyProof.Rows L2 GM TM BF TR
/-! ### the law -/
def spLaw (K : PySem.W.Frag) (T1 T2 : Addr) : Sp := fun vs H Q _ => ∃ (a : Addr) (ns : List Int), vs = [.ref a] ∧ SqL K H a (ns.map V.int) ∧ ns.length ≤ 63 ∧ H T1 = some (.tbl #[]) ∧ H T2 = some (.tbl #[]) ∧ ∀ H', Q (.bl true) H'
theorem cut84 (ns : List Int) (h : ns.length ≤ 63) : ∃ ms : List Int, cutV (ns.map V.int) (some 2) (some 84) = ms.map V.int ∧ ms.length ≤ 61 := by
  refine ⟨(ns.drop (HT.sIx (ns.map V.int).length 0 (some 2))).take (HT.sIx (ns.map V.int).length (ns.map V.int).length (some 84) - HT.sIx (ns.map V.int).length 0 (some 2)), ?_, ?_⟩
  · unfold cutV
    rw [List.map_take, List.map_drop]
  · rw [List.length_take, List.length_drop]
    have hl : (ns.map V.int).length = ns.length := List.length_map ..
    have : 2 ≤ HT.sIx (ns.map V.int).length 0 (some 2) ∨ ns.length ≤ 1 := by
      unfold HT.sIx
      simp only [hl]
      split <;> omega
    omega
/-- nodes, graph and goals at hand -/
structure LS (kd : Bool) (P : Program) (w : World) (H : Hp) (nl g gl : Addr) (us : List V) (key : V → Nd) (E : Nd → List (V × V)) (v0 : V) (gs : List V) : Prop where
  ns : NsL kd H nl us key
  gw : Gw kd P w H g us key E
  v : v0 ∈ us
  gl : H gl = some (.lst gs)
  gm : ∀ v ∈ gs, v ∈ us
theorem NsL.n {kd : Bool} {H H' : Hp} {nl : Addr} {us : List V} {key : V → Nd} (h : NsL kd H nl us key) (s : SmN H H') : NsL kd H' nl us key := ⟨s.ls h.l, h.u1, h.u30, fun v hv => (h.nd v hv).keep s.tk⟩
theorem Gw.n {kd : Bool} {P : Program} {w : World} {H H' : Hp} {g : Addr} {us : List V} {key : V → Nd} {E : Nd → List (V × V)} (h : Gw kd P w H g us key E) (s : SmN H H') : Gw kd P w H' g us key E := by
  obtain ⟨kvs, h1, h2⟩ := h.dx
  obtain ⟨ob, hob, _, _, _, nt⟩ := h1.there
  refine ⟨⟨kvs, h1.keep (fun o e => s _ _ (by rw [hob] at e; cases e; exact nt) e) s.tk, fun v hv => ?_⟩, h.ed⟩
  obtain ⟨la, es, q1, q2, q3⟩ := h2 v hv
  exact ⟨la, es, q1, s.ls q2, q3.keep s.tk⟩
theorem LS.n {kd : Bool} {P : Program} {w : World} {H H' : Hp} {nl g gl : Addr} {us : List V} {key : V → Nd} {E : Nd → List (V × V)} {v0 : V} {gs : List V} (h : LS kd P w H nl g gl us key E v0 gs) (s : SmN H H') : LS kd P w H' nl g gl us key E v0 gs := ⟨h.ns.n s, h.gw.n s, h.v, s.ls h.gl, h.gm⟩
def bOf (key : V → Nd) (E : Nd → List (V × V)) (gs : List V) (deep most : Nat) : Prm := { key := key, E := E, goal := fun n => gs.any fun x => decide (key x = n), deep := deep, most := most }
section
variable {kd : Bool} {P : Program} {w : World} {H : Hp} {nl g gl : Addr} {us : List V} {key : V → Nd} {E : Nd → List (V × V)} {v0 : V} {gs : List V}
theorem LS.uv (h : LS kd P w H nl g gl us key E v0 gs) {deep most : Nat} (m1 : 1 ≤ most) (m2 : most ≤ 2000) : Uv kd H us (bOf key E gs deep most) := ⟨h.ns.nd, fun v _ x hx => h.gw.ed _ x hx, m1, m2⟩
theorem LS.gv (h : LS kd P w H nl g gl us key E v0 gs) {deep most : Nat} : Gv kd P w H g gl us (bOf key E gs deep most) := ⟨h.gw.dx, gs, h.gl, h.gm, fun n => rfl⟩
theorem LS.sf (h : LS kd P w H nl g gl us key E v0 gs) {deep most : Nat} : sfRes (bfs (bOf key E gs deep most) v0) := bfs_sf (fun n x hx => ⟨(h.ns.nd _ (h.gw.ed n x hx).1).sf, (h.gw.ed n x hx).2⟩) (h.ns.nd _ h.v).sf
end
theorem call_len_seqK {X : Cx} {K : PySem.W.Frag} (h : X.K = K) : CallR X (.builtin "len") (fun xs H Q => ∃ p ys, xs = [.ref p] ∧ (SqL K H p ys ∨ SqT K H p ys) ∧ Q (.int ys.length) H) := h ▸ call_len_seq
theorem ndGo : (["_law_k", "_law_nodes_here", "_law_other"] : List Str).Nodup := by decide +kernel
abbrev Nla : List Str := ["_law_script", "_law_by_digits", "_law_seed", "_law_nodes_here", "_law_graph_here", "_law_other", "_law_first", "_law_goals", "_law_deepest", "_law_most", "_law_due", "_law_found"]
theorem scLaw : FnScope Nla ["_law_script"] (defScope sLaw) := ⟨rfl, rfl, rfl, by decide +kernel, rfl, by decide +kernel, by decide +kernel⟩
section
variable {P : Program} {w : World} {K : PySem.W.Frag} {mg : Str → Option Value} {base : Heap} {T1 T2 : Addr}
theorem ok_law {f : Addr} {fd : FuncData} (F : Fun K "law" "law" sLaw f fd) (T : Txt mg) (nT : T1 ≠ T2) (cC : Cal P w K mg base CX0 6 "_law_cell_at" ["_law_script", "_law_k"] (spCell K)) (cM : Cal P w K mg base CX0 6 "_law_mixed" ["_law_cell", "_law_k"] spMixed) (cN : Cal P w K mg base CX0 6 "_law_nodes" ["_law_many", "_law_seed"] spNodes) (cG : Cal P w K mg base CX0 6 "_law_graph" ["_law_nodes_here", "_law_cells"] (spGraph P w K)) (cGb : Cal P w K mg base CX0 6 "_law_graph_by" ["_law_nodes_here", "_law_cells"] (spGraph P w K)) (cAs : Cal P w K mg base CX0 6 "_law_asked_by" ["_law_nodes_here", "_law_cell"] spAsked) (cCh : Cal P w K mg base CX0 6 "_law_chain" ["_law_many"] (spChain T1 T2)) (cSt : Cal P w K mg base CX0 6 "_law_star" ["_law_many"] (spStar T1 T2)) (cR : Cal P w K mg base CX0 6 "_law_rows" ["_law_first", "_law_graph_here", "_law_goals", "_law_deepest", "_law_most"] (spRows P w)) (cTo : Cal P w K mg base CX0 6 "_law_told" ["_law_first", "_law_graph_here", "_law_goals", "_law_deepest", "_law_most"] (spTold P w T1 T2)) (cAl : Cal P w K mg base CX0 6 "_law_alike" ["_law_found", "_law_due"] spAlike) : FnOk P w K mg base CX0 7 f fd ["_law_script"] (spLaw K T1 T2) := by
  refine F.ok scLaw (fun vs H Q E h => ?_) (fun cdv A oo s H vs Q E hr h => ?_)
  · obtain ⟨_, _, rfl, _⟩ := h
    rfl
  · obtain ⟨a, ns, rfl, hS, n63, tb1, tb2, k⟩ := h
    have tb : Tb H T1 T2 := ⟨.inl tb1, .inl tb2, nT⟩
    refine ⟨_, (pss_cons (ps_set (i := 1) scLaw.nd rfl (Or.inl rfl) (pe_cmpR op_eq (pe_op op_mod (pe_cal cC hr rfl pass0 (pa_cons (pv 0) (pa_cons pe_int pa_nil))) pe_int) pe_int (nomark _)))
      (pss_cons (ps_set (i := 2) scLaw.nd rfl (Or.inl rfl) (pe_cal cM hr rfl pass0 (pa_cons (pe_cal cC hr rfl pass0 (pa_cons (pv 0) (pa_cons pe_int pa_nil))) (pa_cons pe_int pa_nil))))
      (pss_cons (ps_set (i := 3) scLaw.nd rfl (Or.inr rfl) (pe_cal cN hr rfl pass0 (pa_cons (pe_op op_add pe_int (pe_op op_mod (pv 2) pe_int)) (pa_cons (pe_op op_fdivB (pv 2) pe_int) pa_nil))))
      (pss_cons (ps_set (i := 4) scLaw.nd rfl (Or.inl rfl) (pe_cal cG hr rfl pass0 (pa_cons (pv 3) (pa_cons (pe_slice sl_list (pv 0) (po_some pe_int) (po_some pe_int)) pa_nil))))
      (pss_cons (ps_set (i := 5) scLaw.nd rfl (Or.inr rfl) (pe_cal cM hr rfl pass0 (pa_cons (pe_cal cC hr rfl pass0 (pa_cons (pv 0) (pa_cons pe_int pa_nil))) (pa_cons pe_int pa_nil))))
      (pss_cons (ps_set (i := 6) scLaw.nd rfl (Or.inl rfl) (pe_ix ix_list (pv 3) (pe_op op_mod (pv 5) (pe_callB (call_min2 rfl) rfl T.min' boot_min (pa_cons pe_int (pa_cons (pe_callB call_len_seq rfl T.len PySem.boot_len (pa_cons (pv 3) pa_nil)) pa_nil)))) (fun _ _ => rfl)))
      (pss_cons (ps_set (i := 7) scLaw.nd rfl (Or.inl rfl) (pe_lst pa_nil))
      (pss_cons (ps_if (pt_cmpR op_eq (pe_op op_mod (pe_op op_fdivB (pv 5) pe_int) pe_int) pe_int (nomark _)) (pss_one (ps_compC (iy := 7) (N' := ["_law_k", "_law_nodes_here", "_law_other"]) (fun σ => [none, some 3, some 5].map fun t => t.bind fun j => (σ[j]?).join) rfl rfl (by decide +kernel) (by decide +kernel)
          (hk_of (sc := defScope sLaw) rfl (by decide +kernel)) (fun _ _ _ => blkN_by (sc := defScope sLaw) (N := Nla) [none, some 3, some 5] rfl rfl rfl rfl (by decide +kernel))
          (pi_range1 rfl T.range (pa_cons (pe_op op_add pe_int (pe_op op_mod (pe_op op_fdivB (pv 5) pe_int) pe_int)) pa_nil)) (fun _ _ _ _ _ _ => pg_name (i := 0) ndGo rfl (Or.inl rfl)) (fun _ _ _ _ _ _ => pifs_nil)
          (fun _ _ _ _ _ _ => pe_ix (ix_listK (K := K) rfl) (pv 1) (pe_op op_mod (pe_op op_fdivB (pv 2) (pe_op op_add pe_int (pe_op op_mulB pe_int (pv 0)))) (pe_callB (call_len_seqK (K := K) rfl) rfl T.len PySem.boot_len (pa_cons (pv 1) pa_nil))) (fun _ _ => rfl))
          scLaw.nd rfl (Or.inl rfl) (Or.inr rfl) rfl)) pss_nil)
      (pss_cons (ps_set (i := 8) scLaw.nd rfl (Or.inl rfl) (pe_ix ix_list (pe_lst (pa_cons pe_int (pa_cons pe_int (pa_cons (pe_op op_mod (pe_op op_fdivB (pv 5) pe_int) pe_int) (pa_cons (pe_op op_mod (pe_op op_fdivB (pv 5) pe_int) pe_int) pa_nil))))) (pe_op op_mod (pe_op op_fdivB (pv 5) pe_int) pe_int) (fun _ _ => rfl)))
      (pss_cons (ps_set (i := 9) scLaw.nd rfl (Or.inl rfl) pe_int)
      (pss_cons (ps_if (pt_cmpR op_eq (pe_op op_mod (pe_op op_fdivB (pv 5) pe_int) pe_int) pe_int (nomark _)) (pss_one (ps_set (i := 9) scLaw.nd rfl (Or.inl rfl) (pe_op op_add pe_int (pe_op op_mod (pe_op op_fdivB (pv 5) pe_int) pe_int)))) pss_nil)
      (pss_cons (ps_if (PW.pt (pw_and (pt_cmpR op_eq (pe_op op_mod (pe_op op_fdivB (pv 5) pe_int) pe_int) pe_int (nomark _)) (pw_and1 (pt_not (pt_val (pe_cal cCh hr rfl pass0 (pa_cons (pe_op op_add pe_int (pe_op op_mod (pe_op op_fdivB (pv 5) pe_int) pe_int)) pa_nil))))))) (pss_one (ps_ret pe_bl)) pss_nil)
      (pss_cons (ps_if (PW.pt (pw_and (pt_cmpR op_eq (pe_op op_mod (pe_op op_fdivB (pv 5) pe_int) pe_int) pe_int (nomark _)) (pw_and1 (pt_not (pt_val (pe_cal cSt hr rfl pass0 (pa_cons (pe_ix ix_list (pe_lst (pa_cons pe_int (pa_cons pe_int (pa_cons pe_int (pa_cons (pe_op op_add pe_int (pe_op op_mod (pe_op op_fdivB (pv 5) pe_int) pe_int)) pa_nil))))) (pe_op op_mod (pe_op op_fdivB (pv 5) pe_int) pe_int) (fun _ _ => rfl)) pa_nil))))))) (pss_one (ps_ret pe_bl)) pss_nil)
      (pss_cons (ps_if (pt_val (pv 1)) (pss_cons (ps_set (i := 4) scLaw.nd rfl (Or.inl rfl) (pe_cal cGb hr rfl pass0 (pa_cons (pv 3) (pa_cons (pe_slice sl_list (pv 0) (po_some pe_int) (po_some pe_int)) pa_nil))))
      (pss_one (ps_asg (pe_cal cAs hr rfl pass0 (pa_cons (pv 3) (pa_cons (pe_cal cC hr rfl pass0 (pa_cons (pv 0) (pa_cons pe_int pa_nil))) pa_nil))) (pg_tupM rfl (pgs_cons (pg_name (i := 6) scLaw.nd rfl (Or.inl rfl)) (pgs_cons (pg_name (i := 7) scLaw.nd rfl (Or.inl rfl)) (pgs_cons (pg_name (i := 8) scLaw.nd rfl (Or.inl rfl)) (pgs_cons (pg_name (i := 9) scLaw.nd rfl (Or.inl rfl)) pgs_nil)))))))) pss_nil)
      (pss_cons (ps_set (i := 10) scLaw.nd rfl (Or.inl rfl) (pe_cal cR hr rfl pass0 (pa_cons (pv 6) (pa_cons (pv 4) (pa_cons (pv 7) (pa_cons (pv 8) (pa_cons (pv 9) pa_nil)))))))
      (pss_cons (ps_set (i := 11) scLaw.nd rfl (Or.inl rfl) (pe_cal cTo hr rfl pass0 (pa_cons (pv 6) (pa_cons (pv 4) (pa_cons (pv 7) (pa_cons (pv 8) (pa_cons (pv 9) pa_nil)))))))
      (pss_cons (ps_if (pt_cmpR op_isN (pv 10) pe_non (nomark _)) (pss_one (ps_ret (pe_cmpR (op_eqT hr.units) (pv 11) (pe_tup (pa_cons pe_str (pa_cons (pv 9) pa_nil))) (nomark _)))) pss_nil)
      (pss_one (ps_ret (pe_cal cAl hr rfl pass0 (pa_cons (pv 11) (pa_cons (pv 10) pa_nil)))))))))))))))))))))), ?_⟩
    refine cut18 ?_
    intros
    obtain ⟨ms, ems, ml⟩ := cut84 ns n63
    refine ⟨_, rfl, a, ns, 0, rfl, hS, by decide, fun c0 => ⟨_, _, rfl, rfl, (by show (0 : Int) < 2; decide), rfl, ?_⟩⟩
    dsimp only [gName]
    generalize decide (V.int (c0 % 2) = V.int 0) = by'
    refine ⟨_, rfl, a, ns, 0, rfl, hS, by decide, fun c1 => ⟨c1, 0, rfl, by decide, by decide, fun sd sd0 sd1 => ?_⟩⟩
    obtain ⟨q0, q1⟩ := emod_in sd (show (0 : Int) < 30 by decide)
    refine ⟨_, rfl, _, _, rfl, rfl, (by show (0 : Int) < 30; decide), _, _, rfl, rfl, _, rfl, _, _, rfl, rfl, ⟨by decide, b9⟩, _, _, rfl, by omega, by omega, by omega, by omega, fun nl us H1 kd s1 nn hn u1 u30 nd => ?_⟩
    have nsl : NsL kd H1 nl us (keyOf kd H1) := ⟨hn, u1, u30, fun v hv => keyOf_is (nd v hv)⟩
    generalize keyOf kd H1 = key at nsl
    have hS1 := s1.seq hS
    refine ⟨_, rfl, _, rfl, _, rfl, _, rfl, a, _, rfl, hS1, fun l hl => ?_⟩
    rw [ems]
    have t2 := Same.upd (o := .lst (ms.map V.int)) hl
    have hl2 : upd H1 l (.lst (ms.map V.int)) l = some (.lst (ms.map V.int)) := upd_same
    generalize upd H1 l (.lst (ms.map V.int)) = H2 at t2 hl2 ⊢
    refine ⟨nl, l, kd, us, key, ms, rfl, nsl.keep t2, SqL.of hl2, ml, fun g E3 H3 s3 gw => ?_⟩
    have ns3 := (nsl.keep t2).keep s3
    have s03 := (s1.trans t2).trans s3
    have tb3 := tb.keep s03
    have hS3 := s03.seq hS
    clear nsl t2 hl2 hS1 hn nd
    refine ⟨_, rfl, a, ns, 1, rfl, hS3, by decide, fun c2 => ⟨c2, 1, rfl, by decide, by decide, fun ot ot0 ot1 => ?_⟩⟩
    have mnp : (0 : Int) < (if ((us.length : Nat) : Int) < 3 then ((us.length : Nat) : Int) else 3) ∧ (if ((us.length : Nat) : Int) < 3 then ((us.length : Nat) : Int) else 3) ≤ ((us.length : Nat) : Int) := by split <;> omega
    obtain ⟨r0, r1⟩ := emod_in ot mnp.1
    obtain ⟨v0, hv0, vm⟩ := at_in (us := us) r0 (Int.lt_of_lt_of_le r1 mnp.2)
    refine ⟨_, rfl, _, rfl, _, rfl, nl, us, rfl, .inl (SqL.of ns3.l), _, _, rfl, _, _, rfl, rfl, mnp.1, nl, us, _, v0, rfl, rfl, SqL.of ns3.l, hv0, ?_⟩
    dsimp only [gName]
    refine ⟨(by show 0 ≤ sizeLine; decide), fun gl0 ngl0 => ?_⟩
    have t4 := Same.upd (o := .lst []) ngl0
    have hg4 : upd H3 gl0 (.lst []) gl0 = some (.lst []) := upd_same
    generalize upd H3 gl0 (.lst []) = H4 at t4 hg4 ⊢
    have ns4 := ns3.keep t4
    have lp : (0 : Int) < ((us.length : Nat) : Int) := by omega
    dsimp only [gName]
    refine seq_nx (fun σ' H' => ∃ (gl : Addr) (gs : List V), σ' = [some (.ref a), some (.bl by'), some (.int sd), some (.ref nl), some (.ref g), some (.int ot), some v0, some (.ref gl), none, none, none, none] ∧ Same H4 H' ∧ H' gl = some (.lst gs) ∧ ∀ v ∈ gs, v ∈ us) ?_ (fun N hN => ?_)
    rotate_left
    · refine ⟨_, rfl, _, _, rfl, rfl, ⟨by decide, b9⟩, _, _, rfl, rfl, (by show (0 : Int) < 2; decide), rfl, _, rfl, ite2 (fun _ => ?_) (fun _ => hN _ _ ⟨gl0, [], rfl, (fun _ _ e => e), hg4, fun v hv => nomatch hv⟩)⟩
      obtain ⟨m0, m3⟩ := emod_in (ot / 6) (show (0 : Int) < 3 by decide)
      refine ⟨_, rfl, _, _, rfl, rfl, ⟨by decide, b9⟩, _, _, rfl, rfl, (by show (0 : Int) < 3; decide), _, _, rfl, rfl, _, rfl, by omega, by omega, fun D nD => ?_⟩
      refine comp_rngI (fun i ys H' => Same H4 H' ∧ H' D = some (.lst ys) ∧ (∀ v ∈ ys, v ∈ us) ∧ ys.length = i) ⟨Same.upd nD, upd_same, (fun v hv => nomatch hv), rfl⟩ (fun i ys H' hi hh => ⟨hh.2.1, size2001 (by rw [hh.2.2.2]; omega)⟩) (fun i ys H' R hi hh hR => ?_) (fun ys H5 hh => ?_)
      · obtain ⟨s5, hD5, ym, yl⟩ := hh
        obtain ⟨v, hv, vm'⟩ := at_mod (us := us) (ot / (6 + 40 * (0 + ((i : Nat) : Int)))) u1
        refine ⟨(Keep.refl _).set rfl, ?_⟩
        refine ⟨_, rfl, _, rfl, _, rfl, _, _, rfl, rfl, ⟨(b9 (c := 40)).mono (by decide), (b9 (by omega) (by omega)).mono (by decide)⟩, _, _, rfl, rfl, _, _, rfl, rfl, ⟨by omega, b9 (by omega) (by omega)⟩, _, rfl, nl, us, rfl, .inl (SqL.of (ns4.keep s5).l), _, _, rfl, rfl, lp, nl, us, _, v, rfl, rfl, SqL.of (ns4.keep s5).l, hv, ?_⟩
        refine hR _ _ hD5 ⟨fun b o e => ?_, upd_same, fun u hu => ?_, by rw [List.length_append, yl]; rfl⟩
        · rw [upd_ne (ne_of_none e nD)]
          exact s5 _ _ e
        · rcases List.mem_append.mp hu with hu | hu
          · exact ym u hu
          · rw [List.mem_singleton.mp hu]; exact vm'
      · obtain ⟨s5, hD5, ym, yl⟩ := hh
        exact hN _ _ ⟨D, ys, rfl, s5, hD5, ym⟩
    rintro σ' H5 ⟨gl, gs, rfl, s5, hg5, gm⟩
    have s05 := (s03.trans t4).trans s5
    have ls5 : LS kd P w H5 nl g gl us key E3 v0 gs := ⟨ns4.keep s5, (gw.n (.of t4)).n (.of s5), vm, hg5, gm⟩
    have tb5 := tb.keep s05
    have hS5 := s05.seq hS
    clear gw ns3 ns4 t4 hg4 hS3 tb3 hg5 gm s5
    obtain ⟨x0, x9⟩ := emod_in (ot / 20) (show (0 : Int) < 10 by decide)
    obtain ⟨y0, y3⟩ := emod_in (ot / 20) (show (0 : Int) < 4 by decide)
    obtain ⟨d0, d4⟩ := emod_in (ot / 5) (show (0 : Int) < 4 by decide)
    obtain ⟨dv, hdv, dm⟩ := at_in (us := [V.int 60, .int 60, .int (ot / 20 % 10), .int (ot / 20 % 4)]) d0 d4
    obtain ⟨deep, rfl⟩ : ∃ n : Nat, dv = .int ((n : Nat) : Int) := by
      have : ∀ v ∈ [V.int 60, .int 60, .int (ot / 20 % 10), .int (ot / 20 % 4)], ∃ n : Int, 0 ≤ n ∧ v = .int n := List.forall_mem_cons.mpr ⟨⟨_, by decide, rfl⟩, List.forall_mem_cons.mpr ⟨⟨_, by decide, rfl⟩, List.forall_mem_cons.mpr ⟨⟨_, x0, rfl⟩, List.forall_mem_cons.mpr ⟨⟨_, y0, rfl⟩, fun _ h => nomatch h⟩⟩⟩⟩
      obtain ⟨n, n0, rfl⟩ := this dv dm
      obtain ⟨j, rfl⟩ := Int.eq_ofNat_of_zero_le n0
      exact ⟨j, rfl⟩
    refine ⟨_, rfl, _, _, rfl, rfl, ⟨by decide, b9⟩, _, _, rfl, rfl, (by show (0 : Int) < 10; decide), _, rfl, _, _, rfl, rfl, ⟨by decide, b9⟩, _, _, rfl, rfl, (by show (0 : Int) < 4; decide), (by show 4 ≤ sizeLine; decide), fun zl nzl => ?_⟩
    have t6 := Same.upd (o := .lst [.int 60, .int 60, .int (ot / 20 % 10), .int (ot / 20 % 4)]) nzl
    have hz6 : upd H5 zl (.lst [.int 60, .int 60, .int (ot / 20 % 10), .int (ot / 20 % 4)]) zl = some (.lst [.int 60, .int 60, .int (ot / 20 % 10), .int (ot / 20 % 4)]) := upd_same
    generalize upd H5 zl (.lst [.int 60, .int 60, .int (ot / 20 % 10), .int (ot / 20 % 4)]) = H6 at t6 hz6 ⊢
    refine ⟨_, rfl, _, _, rfl, rfl, ⟨by decide, b9⟩, _, _, rfl, rfl, (by show (0 : Int) < 4; decide), zl, _, _, _, rfl, rfl, SqL.of hz6, hdv, ?_⟩
    dsimp only [gName]
    have ls6 := ls5.n (.of t6)
    have tb6 := tb5.keep t6
    have hS6 := t6.seq hS5
    clear ls5 tb5 hS5 hdv dm hz6
    refine seq_nx2 (fun σ' H' => ∃ most : Nat, σ' = [some (.ref a), some (.bl by'), some (.int sd), some (.ref nl), some (.ref g), some (.int ot), some v0, some (.ref gl), some (.int ((deep : Nat) : Int)), some (.int ((most : Nat) : Int)), none, none] ∧ H' = H6 ∧ 1 ≤ most ∧ most ≤ 2000) ?_ (fun N hN => ?_)
    rotate_left
    · refine ⟨_, rfl, _, _, rfl, rfl, ⟨by decide, b9⟩, _, _, rfl, rfl, (by show (0 : Int) < 3; decide), rfl, _, rfl, ite2 (fun _ => ?_) (fun _ => hN _ _ ⟨2000, rfl, rfl, by decide, by decide⟩)⟩
      obtain ⟨z0, z1⟩ := emod_in (ot / 54) (show (0 : Int) < 40 by decide)
      obtain ⟨j, hj⟩ := Int.eq_ofNat_of_zero_le (show 0 ≤ 1 + ot / 54 % 40 by omega)
      refine ⟨_, rfl, _, _, rfl, rfl, ⟨by decide, b9⟩, _, _, rfl, rfl, (by show (0 : Int) < 40; decide), _, _, rfl, rfl, ?_⟩
      exact hN _ _ ⟨j, by rw [← hj]; rfl, rfl, by omega, by omega⟩
    rintro σ' H' ⟨most, rfl, rfl, m1, m2⟩
    refine seq_nx (fun σ' H' => σ' = [some (.ref a), some (.bl by'), some (.int sd), some (.ref nl), some (.ref g), some (.int ot), some v0, some (.ref gl), some (.int ((deep : Nat) : Int)), some (.int ((most : Nat) : Int)), none, none] ∧ LS kd P w H' nl g gl us key E3 v0 gs ∧ Tb H' T1 T2 ∧ SqL K H' a (ns.map V.int)) ?_ (fun N hN => ?_)
    rotate_left
    · refine ⟨_, rfl, _, _, rfl, rfl, ⟨by decide, b9⟩, _, _, rfl, rfl, (by show (0 : Int) < 8; decide), rfl, _, rfl, ite2 (fun _ => ?_) (fun _ => iteF (hN _ _ ⟨rfl, ls6, tb6, hS6⟩))⟩
      obtain ⟨z0, z1⟩ := emod_in (ot / 56) (show (0 : Int) < 31 by decide)
      obtain ⟨j, hj⟩ := Int.eq_ofNat_of_zero_le (show 0 ≤ 50 + ot / 56 % 31 by omega)
      refine ⟨_, rfl, _, _, rfl, rfl, ⟨by decide, b9⟩, _, _, rfl, rfl, (by show (0 : Int) < 31; decide), _, _, rfl, rfl, j, congrArg (fun x => [V.int x]) hj, by omega, by omega, tb6, fun H7 s7 tb7 => ?_⟩
      exact ⟨_, rfl, iteF (hN _ _ ⟨rfl, ls6.n s7, tb7, s7.seq hS6⟩)⟩
    rintro σ' H7 ⟨rfl, ls7, tb7, hS7⟩
    clear ls6 tb6 hS6
    refine seq_nx (fun σ' H' => σ' = [some (.ref a), some (.bl by'), some (.int sd), some (.ref nl), some (.ref g), some (.int ot), some v0, some (.ref gl), some (.int ((deep : Nat) : Int)), some (.int ((most : Nat) : Int)), none, none] ∧ LS kd P w H' nl g gl us key E3 v0 gs ∧ Tb H' T1 T2 ∧ SqL K H' a (ns.map V.int)) ?_ (fun N hN => ?_)
    rotate_left
    · refine ⟨_, rfl, _, _, rfl, rfl, ⟨by decide, b9⟩, _, _, rfl, rfl, (by show (0 : Int) < 8; decide), rfl, _, rfl, ite2 (fun _ => ?_) (fun _ => iteF (hN _ _ ⟨rfl, ls7, tb7, hS7⟩))⟩
      obtain ⟨z0, z1⟩ := emod_in (ot / 56) (show (0 : Int) < 900 by decide)
      obtain ⟨e0, e4⟩ := emod_in (ot / 60) (show (0 : Int) < 4 by decide)
      obtain ⟨sv, hsv, smm⟩ := at_in (us := [V.int 1998, .int 1999, .int 2000, .int (1000 + ot / 56 % 900)]) e0 e4
      obtain ⟨j, rfl, j2⟩ : ∃ n : Nat, sv = .int ((n : Nat) : Int) ∧ n ≤ 2000 := by
        have : ∀ v ∈ [V.int 1998, .int 1999, .int 2000, .int (1000 + ot / 56 % 900)], ∃ n : Int, (0 ≤ n ∧ n ≤ 2000) ∧ v = .int n := List.forall_mem_cons.mpr ⟨⟨_, by decide, rfl⟩, List.forall_mem_cons.mpr ⟨⟨_, by decide, rfl⟩, List.forall_mem_cons.mpr ⟨⟨_, by decide, rfl⟩, List.forall_mem_cons.mpr ⟨⟨_, ⟨by omega, by omega⟩, rfl⟩, fun _ h => nomatch h⟩⟩⟩⟩
        obtain ⟨n, n0, rfl⟩ := this sv smm
        obtain ⟨j, rfl⟩ := Int.eq_ofNat_of_zero_le n0.1
        exact ⟨j, rfl, by omega⟩
      refine ⟨_, rfl, _, _, rfl, rfl, ⟨by decide, b9⟩, _, _, rfl, rfl, (by show (0 : Int) < 900; decide), _, _, rfl, rfl, (by show 4 ≤ sizeLine; decide), fun zl nzl => ?_⟩
      have t8 := Same.upd (o := .lst [.int 1998, .int 1999, .int 2000, .int (1000 + ot / 56 % 900)]) nzl
      have hz8 : upd H7 zl (.lst [.int 1998, .int 1999, .int 2000, .int (1000 + ot / 56 % 900)]) zl = some (.lst [.int 1998, .int 1999, .int 2000, .int (1000 + ot / 56 % 900)]) := upd_same
      generalize upd H7 zl (.lst [.int 1998, .int 1999, .int 2000, .int (1000 + ot / 56 % 900)]) = H8 at t8 hz8 ⊢
      refine ⟨_, rfl, _, _, rfl, rfl, ⟨by decide, b9⟩, _, _, rfl, rfl, (by show (0 : Int) < 4; decide), zl, _, _, _, rfl, rfl, SqL.of hz8, hsv, j, rfl, j2, tb7.keep t8, fun H9 s9 tb9 => ?_⟩
      exact ⟨_, rfl, iteF (hN _ _ ⟨rfl, (ls7.n (.of t8)).n s9, tb9, s9.seq (t8.seq hS7)⟩)⟩
    rintro σ' H8 ⟨rfl, ls8, tb8, hS8⟩
    clear ls7 tb7 hS7
    refine seq_nx (fun σ' H' => ∃ (g gl : Addr) (E : Nd → List (V × V)) (v0 : V) (gs : List V) (deep most : Nat), σ' = [some (.ref a), some (.bl by'), some (.int sd), some (.ref nl), some (.ref g), some (.int ot), some v0, some (.ref gl), some (.int ((deep : Nat) : Int)), some (.int ((most : Nat) : Int)), none, none] ∧ LS kd P w H' nl g gl us key E v0 gs ∧ Tb H' T1 T2 ∧ 1 ≤ most ∧ most ≤ 2000) ?_ (fun N hN => ?_)
    rotate_left
    · refine ⟨_, rfl, _, rfl, ite2 (fun _ => ?_) (fun _ => hN _ _ ⟨g, gl, E3, v0, gs, deep, most, rfl, ls8, tb8, m1, m2⟩)⟩
      refine ⟨_, rfl, _, rfl, _, rfl, _, rfl, a, _, rfl, hS8, fun l hl => ?_⟩
      rw [ems]
      have t9 := Same.upd (o := .lst (ms.map V.int)) hl
      have hl9 : upd H8 l (.lst (ms.map V.int)) l = some (.lst (ms.map V.int)) := upd_same
      generalize upd H8 l (.lst (ms.map V.int)) = H9 at t9 hl9 ⊢
      refine ⟨nl, l, kd, us, key, ms, rfl, ls8.ns.keep t9, SqL.of hl9, ml, fun g9 E9 HA sA gwA => ?_⟩
      have s8A := t9.trans sA
      refine ⟨_, rfl, _, rfl, a, ns, 1, rfl, s8A.seq hS8, by decide, fun c9 => ⟨nl, c9, kd, us, key, rfl, ls8.ns.keep s8A, fun p v9 gl9 gs9 dp9 ms9 HB sB hp vm9 hgl9 gm9 k1 k2 => ?_⟩⟩
      refine ⟨p, _, rfl, SqL.of hp, rfl, ?_⟩
      refine ⟨_, _, rfl, _, _, rfl, _, _, rfl, _, _, rfl, rfl, ?_⟩
      exact hN _ _ ⟨g9, gl9, E9, v9, gs9, dp9, ms9, rfl, ⟨(ls8.ns.keep s8A).keep sB, gwA.n (.of sB), vm9, hgl9, gm9⟩, (tb8.keep s8A).keep sB, k1, k2⟩
    clear ls8 tb8 hS8 m1 m2
    clear deep most
    rintro σ' H9 ⟨g9, gl9, E9, v9, gs9, deep, most, rfl, ls9, tb9, m1, m2⟩
    have sf := ls9.sf (deep := deep) (most := most)
    refine ⟨_, rfl, _, rfl, _, rfl, _, rfl, _, rfl, v9, g9, gl9, kd, us, bOf key E9 gs9 deep most, rfl, ls9.uv m1 m2, ls9.v, ls9.gv, ?_⟩
    have told : ∀ (HA : Hp) (Q' : VK), Same H9 HA → OutT T1 T2 most HA Q' (bfs (bOf key E9 gs9 deep most) v9) → spTold P w T1 T2 [v9, .ref g9, .ref gl9, .int ((deep : Nat) : Int), .int ((most : Nat) : Int)] HA Q' E := fun HA Q' sA o => ⟨v9, g9, gl9, kd, us, bOf key E9 gs9 deep most, rfl, tb9.keep sA, (ls9.n (.of sA)).uv m1 m2, ls9.v, (ls9.n (.of sA)).gv, o⟩
    revert sf told
    cases eb : bfs (bOf key E9 gs9 deep most) v9 with
    | many =>
      intro sf told
      intro HA sA
      refine ⟨_, rfl, _, rfl, _, rfl, _, rfl, _, rfl, told HA _ sA fun z HB sB tbB hz => ?_⟩
      refine ⟨_, rfl, rfl, _, rfl, iteT ?_⟩
      refine ⟨_, rfl, _, rfl, (by show 2 ≤ sizeLine; decide), fun zz nzz => ?_⟩
      have tC := Same.upd (o := .tup [.str "many", .int ((most : Nat) : Int)]) nzz
      refine ⟨z, zz, _, _, fun _ => true, rfl, rfl, SqT.of (tC _ _ hz), SqT.of upd_same, tup2_self (xs := [.str "many", .int ((most : Nat) : Int)]) (List.forall_mem_cons.mpr ⟨.inl rfl, List.forall_mem_cons.mpr ⟨.inl rfl, fun _ h => nomatch h⟩⟩), ?_⟩
      exact k _
    | none rows =>
      intro sf told
      intro z l vs HA sA hz hl rw1
      refine ⟨_, rfl, _, rfl, _, rfl, _, rfl, _, rfl, told HA _ sA fun z9 l9 vs9 HB sB tbB hz9 hl9 rw9 => ?_⟩
      refine ⟨_, rfl, rfl, _, rfl, iteF ?_⟩
      exact ⟨_, rfl, _, rfl, z9, z, rows, .non, rfl, ⟨⟨l9, vs9, hz9, hl9, rw9⟩, ⟨l, vs, sB.tk _ _ hz, sB.ls hl, rw1.keep sB.tk⟩, sf, .inl rfl⟩, k _⟩
    | found rows =>
      intro sf told
      intro z l vs HA sA hz hl rw1
      refine ⟨_, rfl, _, rfl, _, rfl, _, rfl, _, rfl, told HA _ sA fun z9 l9 vs9 HB sB tbB hz9 hl9 rw9 => ?_⟩
      refine ⟨_, rfl, rfl, _, rfl, iteF ?_⟩
      exact ⟨_, rfl, _, rfl, z9, z, rows, _, rfl, ⟨⟨l9, vs9, hz9, hl9, rw9⟩, ⟨l, vs, sB.tk _ _ hz, sB.ls hl, rw1.keep sB.tk⟩, sf, .inr ⟨_, rfl⟩⟩, k _⟩
end
end K61

namespace K61
open PySem PySem.Spec PyProof.Rows L2 GM TM BF TR
/-- a def of the top, by its name -/
structure Dn (K : PySem.W.Frag) (x : Str) (st : Stmt) (ps : List Str) : Prop where
  ex : ∃ (f : Addr) (fd : FuncData), PySem.W.nsIn K mainGlobals x = some (some (.ref f)) ∧ Fun K x x st f fd ∧ Binds K fd ps []
theorem Dn.mk' {K : PySem.W.Frag} {x : Str} {st : Stmt} {ps : List Str} {f : Addr} {oc : Value} {od an : Option Addr} {osl : Array (Option Value)} {kV doc pm cdv ct : Value} (a : PySem.W.nsIn K mainGlobals x = some (some (.ref f)))
    (l : K.lookup f = some ⟨oc, od, .func (PySem.W.fnOf x x (defArgs st) (defBody st) (defScope st) .none kV doc pm an cdv ct), osl⟩) (c : PySem.W.codeIn K cdv x = true) (k : PySem.W.keepIn K (.ref f) = true)
    (hb : ∀ (kV doc pm : Value) (an : Option Addr) (cdv ct : Value) (us : List Value), us.length = ps.length → bindArgs (PySem.W.fnOf x x (defArgs st) (defBody st) (defScope st) .none kV doc pm an cdv ct) ⟨us, []⟩ = pure (ps.zip us)) : Dn K x st ps :=
  ⟨f, _, a, fun_mk (st := st) l c k, (fun_mk (st := st) l c k).binds hb⟩
theorem Dn.cal {P : Program} {w : World} {K : PySem.W.Frag} {mg : Str → Option Value} {base h : Heap} {CX : CXT} {k : Nat} {x : Str} {st : Stmt} {ps : List Str} {sp : Sp} (D : Dn K x st ps) (X : K.In h) (G : h.Ns mainGlobals mg)
    (ok : ∀ {f : Addr} {fd : FuncData}, Fun K x x st f fd → FnOk P w K mg base CX k f fd ps sp) : Cal P w K mg base CX k x ps sp := by
  obtain ⟨f, fd, a, F, b⟩ := D.ex
  exact ⟨f, fd, PySem.W.mg_of X G a, F.kp, b, ok F⟩

/-- the def that makes a lambda, its code at c, its table at T -/
structure DnC (K : PySem.W.Frag) (x : Str) (st : Stmt) (ps : List Str) (c T : Addr) : Prop where
  ex : ∃ (f : Addr) (fd : FuncData), PySem.W.nsIn K mainGlobals x = some (some (.ref f)) ∧ FunC K x x st f fd c ∧ Binds K fd ps []
  tab : PySem.W.tabIn K x = some (c, T)
theorem DnC.mk' {K : PySem.W.Frag} {x : Str} {st : Stmt} {ps : List Str} {f c T : Addr} {oc oc' : Value} {od an od' : Option Addr} {osl osl' : Array (Option Value)} {kV doc pm ct : Value} {vs : Array Value} (a : PySem.W.nsIn K mainGlobals x = some (some (.ref f)))
    (l : K.lookup f = some ⟨oc, od, .func (PySem.W.fnOf x x (defArgs st) (defBody st) (defScope st) .none kV doc pm an (.ref c) ct), osl⟩) (hc : PySem.W.codeIn K (.ref c) x = true) (k : PySem.W.keepIn K (.ref f) = true)
    (lc : K.lookup c = some ⟨oc', od', .fields vs, osl'⟩) (hv : vs[11]? = some (.ref T))
    (hb : ∀ (kV doc pm : Value) (an : Option Addr) (cdv ct : Value) (us : List Value), us.length = ps.length → bindArgs (PySem.W.fnOf x x (defArgs st) (defBody st) (defScope st) .none kV doc pm an cdv ct) ⟨us, []⟩ = pure (ps.zip us)) : DnC K x st ps c T := by
  refine ⟨⟨f, _, a, ⟨⟨oc, od, kV, doc, pm, an, ct, osl, rfl, l, hc⟩, k⟩, (fun_mk (st := st) l hc k).binds hb⟩, ?_⟩
  unfold PySem.W.tabIn
  rw [a]
  dsimp only
  rw [l]
  dsimp only [PySem.W.fnOf]
  rw [lc]
  dsimp only
  rw [hv]
theorem DnC.cal {P : Program} {w : World} {K : PySem.W.Frag} {mg : Str → Option Value} {base h : Heap} {CX : CXT} {k : Nat} {x : Str} {st : Stmt} {ps : List Str} {sp : Sp} {c T : Addr} (D : DnC K x st ps c T) (X : K.In h) (G : h.Ns mainGlobals mg)
    (ok : ∀ {f : Addr} {fd : FuncData}, FunC K x x st f fd c → FnOk P w K mg base CX k f fd ps sp) : Cal P w K mg base CX k x ps sp := by
  obtain ⟨f, fd, a, F, b⟩ := D.ex
  exact ⟨f, fd, PySem.W.mg_of X G a, F.kp, b, ok F⟩
def SpK (K : PySem.W.Frag) : Prop := ∃ (f dT : Addr) (oc oc2 kV doc pm cdv ct : Value) (od od2 an : Option Addr) (osl sl2 : Array (Option Value)) (tk1 tk2 : Tok) (n2 : Nat),
  PySem.W.nsIn K mainGlobals "spread" = some (some (.ref f)) ∧ K.lookup f = some ⟨oc, od, .func (PySem.W.fnOf "spread" "spread" (defArgs sSpread) (defBody sSpread) (defScope sSpread) (.ref dT) kV doc pm an cdv ct), osl⟩ ∧ PySem.W.codeIn K cdv "spread" = true ∧ PySem.W.keepIn K (.ref f) = true ∧ K.lookup dT = some ⟨oc2, od2, .seq #[.int 60 tk1, .int 2000 tk2] n2, sl2⟩
theorem SpK.mk' {K : PySem.W.Frag} {f dT : Addr} {oc oc2 kV doc pm cdv ct : Value} {od od2 an : Option Addr} {osl sl2 : Array (Option Value)} {tk1 tk2 : Tok} {n2 : Nat} (a : PySem.W.nsIn K mainGlobals "spread" = some (some (.ref f)))
    (l : K.lookup f = some ⟨oc, od, .func (PySem.W.fnOf "spread" "spread" (defArgs sSpread) (defBody sSpread) (defScope sSpread) (.ref dT) kV doc pm an cdv ct), osl⟩) (c : PySem.W.codeIn K cdv "spread" = true) (k : PySem.W.keepIn K (.ref f) = true) (d : K.lookup dT = some ⟨oc2, od2, .seq #[.int 60 tk1, .int 2000 tk2] n2, sl2⟩) : SpK K := ⟨_, _, _, _, _, _, _, _, _, _, _, _, _, _, _, _, _, a, l, c, k, d⟩
theorem bind3 {K : PySem.W.Frag} {s : Shared} {us : List Value} {dT : Addr} {oc2 kV doc pm cdv ct : Value} {od2 an : Option Addr} {sl2 : Array (Option Value)} {tk1 tk2 : Tok} {n2 : Nat} (hK : K.In s.heap) (d : K.lookup dT = some ⟨oc2, od2, .seq #[.int 60 tk1, .int 2000 tk2] n2, sl2⟩) (hl : (us ++ [Value.int 60 tk1, Value.int 2000 tk2]).length = 5) :
    BindsTo s (PySem.W.fnOf "spread" "spread" (defArgs sSpread) (defBody sSpread) (defScope sSpread) (.ref dT) kV doc pm an cdv ct) ⟨us, []⟩ ((["first", "steps", "sought", "deepest", "most"] : List Str).zip (us ++ [Value.int 60 tk1, Value.int 2000 tk2])) := by
  rw [List.length_append] at hl
  have hl : us.length = 3 := Nat.add_right_cancel (m := 2) hl
  match us, hl with
  | [a, b, c], _ => exact PySem.W.binds_K hK rfl d rfl rfl rfl
theorem bind4 {K : PySem.W.Frag} {s : Shared} {us : List Value} {dT : Addr} {oc2 kV doc pm cdv ct : Value} {od2 an : Option Addr} {sl2 : Array (Option Value)} {tk1 tk2 : Tok} {n2 : Nat} (hK : K.In s.heap) (d : K.lookup dT = some ⟨oc2, od2, .seq #[.int 60 tk1, .int 2000 tk2] n2, sl2⟩) (hl : (us ++ [Value.int 2000 tk2]).length = 5) :
    BindsTo s (PySem.W.fnOf "spread" "spread" (defArgs sSpread) (defBody sSpread) (defScope sSpread) (.ref dT) kV doc pm an cdv ct) ⟨us, []⟩ ((["first", "steps", "sought", "deepest", "most"] : List Str).zip (us ++ [Value.int 2000 tk2])) := by
  rw [List.length_append] at hl
  have hl : us.length = 4 := Nat.add_right_cancel (m := 1) hl
  match us, hl with
  | [a, b, c, e], _ => exact PySem.W.binds_K hK rfl d rfl rfl rfl
theorem bind5 {K : PySem.W.Frag} {s : Shared} {us : List Value} {dT : Addr} {oc2 kV doc pm cdv ct : Value} {od2 an : Option Addr} {sl2 : Array (Option Value)} {tk1 tk2 : Tok} {n2 : Nat} (hK : K.In s.heap) (d : K.lookup dT = some ⟨oc2, od2, .seq #[.int 60 tk1, .int 2000 tk2] n2, sl2⟩) (hl : (us ++ ([] : List Value)).length = 5) :
    BindsTo s (PySem.W.fnOf "spread" "spread" (defArgs sSpread) (defBody sSpread) (defScope sSpread) (.ref dT) kV doc pm an cdv ct) ⟨us, []⟩ ((["first", "steps", "sought", "deepest", "most"] : List Str).zip (us ++ ([] : List Value))) := by
  rw [List.length_append] at hl
  have hl : us.length = 5 := Nat.add_right_cancel (m := 0) hl
  match us, hl with
  | [a, b, c, e, g], _ => exact PySem.W.binds_K hK rfl d rfl rfl rfl
structure ErNK (K : PySem.W.Frag) (cP cM fI : Addr) : Prop where
  ef : ExF K cM cP fI "most"
  ct : CtK K cM
  s : PySem.W.subIn K (.ref cM) (.ref cM) = some true
  bi : BaseI K cP
  iP : PySem.W.kitOne K (.ref cM) (.ref cP) = some true
  iV : PySem.W.kitOne K (.ref cM) (.type "ValueError") = some true
  mP : PySem.W.nsIn K mainGlobals "PhialError" = some (some (.ref cP))
  mM : PySem.W.nsIn K mainGlobals "TooMany" = some (some (.ref cM))
  fn : ∃ fd : FuncData, Fun K "__init__" "TooMany.__init__" sInit fI fd ∧ Binds K fd ["self", "most"] []
theorem ErNK.er {K : PySem.W.Frag} {mg : Str → Option Value} {h : Heap} {cP cM fI : Addr} (E : ErNK K cP cM fI) (X : K.In h) (G : h.Ns mainGlobals mg) : ErM K mg cP cM fI := ⟨E.ef, E.ct, E.bi, E.s, E.iP, E.iV, PySem.W.mg_of X G E.mP, PySem.W.mg_of X G E.mM⟩
theorem fnI_mk {K : PySem.W.Frag} {f : Addr} {oc : Value} {od an : Option Addr} {osl : Array (Option Value)} {kV doc pm cdv ct : Value}
    (l : K.lookup f = some ⟨oc, od, .func (PySem.W.fnOf "__init__" "TooMany.__init__" (defArgs sInit) (defBody sInit) (defScope sInit) .none kV doc pm an cdv ct), osl⟩) (c : PySem.W.codeIn K cdv "TooMany.__init__" = true) (k : PySem.W.keepIn K (.ref f) = true) :
    ∃ fd : FuncData, Fun K "__init__" "TooMany.__init__" sInit f fd ∧ Binds K fd ["self", "most"] [] :=
  ⟨_, fun_mk (st := sInit) l c k, (fun_mk (st := sInit) l c k).binds fun _ _ _ _ _ _ us hl => match us, hl with | [_, _], _ => rfl⟩
theorem err_mk {K : PySem.W.Frag} {cP cM fI : Addr} {od : Option Addr} {cd : ClassData} {sl : Array (Option Value)}
    (mP : PySem.W.nsIn K mainGlobals "PhialError" = some (some (.ref cP)))
    (mM : PySem.W.nsIn K mainGlobals "TooMany" = some (some (.ref cM)))
    (_lk : K.lookup cM = some ⟨.type "type", od, .cls cd, sl⟩) (_ni : PySem.W.nsIn K cd.ns "__init__" = some (some (.ref fI)))
    (ef : ExF K cM cP fI "most")
    (ct : CtK K cM)
    (s : PySem.W.subIn K (.ref cM) (.ref cM) = some true)
    (bi : BaseI K cP)
    (iP : PySem.W.kitOne K (.ref cM) (.ref cP) = some true)
    (iV : PySem.W.kitOne K (.ref cM) (.type "ValueError") = some true)
    (fn : ∃ fd : FuncData, Fun K "__init__" "TooMany.__init__" sInit fI fd ∧ Binds K fd ["self", "most"] []) : ∃ cP cM fI : Addr, ErNK K cP cM fI :=
  ⟨_, _, _, ef, ct, s, bi, iP, iV, mP, mM, fn⟩
structure AllD (K : PySem.W.Frag) : Prop where
  dCell : Dn K "_law_cell_at" sCell ["_law_script", "_law_k"]
  dWhole : Dn K "_law_whole" sWhole ["_law_found"]
  dMixed : Dn K "_law_mixed" sMixed ["_law_cell", "_law_k"]
  dNodes : Dn K "_law_nodes" sNodes ["_law_many", "_law_seed"]
  dGraph : Dn K "_law_graph" sGraph ["_law_nodes_here", "_law_cells"]
  dRows : Dn K "_law_rows" sRows ["_law_first", "_law_graph_here", "_law_goals", "_law_deepest", "_law_most"]
  dTold : Dn K "_law_told" sTold ["_law_first", "_law_graph_here", "_law_goals", "_law_deepest", "_law_most"]
  dAlike : Dn K "_law_alike" sAlike ["_law_found", "_law_due"]
  dChain : Dn K "_law_chain" sChain ["_law_many"]
  dStar : Dn K "_law_star" sStar ["_law_many"]
  dGraphBy : Dn K "_law_graph_by" sGraphBy ["_law_nodes_here", "_law_cells"]
  dAskedBy : Dn K "_law_asked_by" sAskedBy ["_law_nodes_here", "_law_cell"]
  z0 : PySem.W.nsIn K mainGlobals "isinstance" = some none
  z1 : PySem.W.nsIn K mainGlobals "int" = some none
  z2 : PySem.W.nsIn K mainGlobals "bool" = some none
  z3 : PySem.W.nsIn K mainGlobals "tuple" = some none
  z4 : PySem.W.nsIn K mainGlobals "str" = some none
  z5 : PySem.W.nsIn K mainGlobals "len" = some none
  z6 : PySem.W.nsIn K mainGlobals "range" = some none
  z7 : PySem.W.nsIn K mainGlobals "min" = some none
  z8 : PySem.W.nsIn K mainGlobals "abs" = some none
  z9 : PySem.W.nsIn K mainGlobals "list" = some none
  z10 : PySem.W.nsIn K mainGlobals "ValueError" = some none
  sp : SpK K
  err : ∃ cP cM fI : Addr, ErNK K cP cM fI
theorem AllD.txt {K : PySem.W.Frag} {mg : Str → Option Value} {h : Heap} (A : AllD K) (X : K.In h) (G : h.Ns mainGlobals mg) : Txt mg := ⟨PySem.W.mg_none_of X G A.z0, PySem.W.mg_none_of X G A.z1, PySem.W.mg_none_of X G A.z2, PySem.W.mg_none_of X G A.z3, PySem.W.mg_none_of X G A.z4, PySem.W.mg_none_of X G A.z5, PySem.W.mg_none_of X G A.z6, PySem.W.mg_none_of X G A.z7, PySem.W.mg_none_of X G A.z8, PySem.W.mg_none_of X G A.z9, PySem.W.mg_none_of X G A.z10⟩
theorem law_ok {P : Program} {w : World} {K : PySem.W.Frag} {mg : Str → Option Value} {base h : Heap} {f c1 T1 c2 T2 : Addr} {fd : FuncData} (X : K.In h) (G : h.Ns mainGlobals mg) (A : AllD K) (C1 : DnC K "_law_steps_of" sStepsOf ["_law_graph_here"] c1 T1) (C2 : DnC K "_law_sought_of" sSoughtOf ["_law_goals"] c2 T2) (B1 : LamB mg base c1 T1) (B2 : LamB mg base c2 T2) (nT : T1 ≠ T2) (F : Fun K "law" "law" sLaw f fd) :
    FnOk P w K mg base CX0 7 f fd ["_law_script"] (spLaw K T1 T2) := by
  have T : Txt mg := A.txt X G
  obtain ⟨cP, cM, fI, EK⟩ := A.err
  have R := EK.er X G
  obtain ⟨fdI, FI, bI⟩ := EK.fn
  have kI : FnOk P w K mg base CX0 1 fI fdI ["self", "most"] (spInit cM) := ok_init FI R
  have cC : Cal P w K mg base CX0 1 "_law_cell_at" ["_law_script", "_law_k"] (spCell K) := A.dCell.cal X G fun F => ok_cell F T
  have cW : Cal P w K mg base CX0 1 "_law_whole" ["_law_found"] spWhole := A.dWhole.cal X G fun F => ok_whole F T
  have cX : Cal P w K mg base CX0 1 "_law_mixed" ["_law_cell", "_law_k"] spMixed := A.dMixed.cal X G fun F => ok_mixed F
  have cN : Cal P w K mg base CX0 1 "_law_nodes" ["_law_many", "_law_seed"] spNodes := A.dNodes.cal X G fun F => ok_nodes F T
  have cG : Cal P w K mg base CX0 2 "_law_graph" ["_law_nodes_here", "_law_cells"] (spGraph P w K) := A.dGraph.cal X G fun F => ok_graph F T cX
  have cR : Cal P w K mg base CX0 2 "_law_rows" ["_law_first", "_law_graph_here", "_law_goals", "_law_deepest", "_law_most"] (spRows P w) := A.dRows.cal X G fun F => ok_rows F T
  have cSo : Cal P w K mg base CX0 1 "_law_steps_of" ["_law_graph_here"] (spStepsOf T1) := C1.cal X G fun F => ok_stepsof F B1
  have cGo : Cal P w K mg base CX0 1 "_law_sought_of" ["_law_goals"] (spSoughtOf T2) := C2.cal X G fun F => ok_soughtof F B2
  obtain ⟨fa, dT, oc, oc2, kV, doc, pm, cdv, ct, od, od2, an, osl, sl2, tk1, tk2, n2, q1, q2, q3, q4, q5⟩ := A.sp
  have FS : FnOk P w K mg base (CXg P w) 4 fa _ ["first", "steps", "sought", "deepest", "most"] (spSpread P w K mg base cM) := ok_spread q2 q3 T R kI bI
  have c3 : CalD P w K mg base (CXg P w) 4 "spread" psS (spSpread P w K mg base cM) [.int 60, .int 2000] := ⟨fa, _, [.int 60 tk1, .int 2000 tk2], PySem.W.mg_of X G q1, q4, fun s us hK hl => bind3 hK q5 hl, .cons ⟨_, rfl⟩ (.cons ⟨_, rfl⟩ .nil), FS⟩
  have c4 : CalD P w K mg base (CXg P w) 4 "spread" psS (spSpread P w K mg base cM) [.int 2000] := ⟨fa, _, [.int 2000 tk2], PySem.W.mg_of X G q1, q4, fun s us hK hl => bind4 hK q5 hl, .cons ⟨_, rfl⟩ .nil, FS⟩
  have c5 : CalD P w K mg base (CXg P w) 4 "spread" psS (spSpread P w K mg base cM) [] := ⟨fa, _, [], PySem.W.mg_of X G q1, q4, fun s us hK hl => bind5 hK q5 hl, .nil, FS⟩
  have cTo : Cal P w K mg base CX0 5 "_law_told" ["_law_first", "_law_graph_here", "_law_goals", "_law_deepest", "_law_most"] (spTold P w T1 T2) := A.dTold.cal X G fun F => ok_told F T R (cSo.mono (by decide)) (cGo.mono (by decide)) c3 c4 c5
  have cAl : Cal P w K mg base CX0 2 "_law_alike" ["_law_found", "_law_due"] spAlike := A.dAlike.cal X G fun F => ok_alike F T cW
  have cCh : Cal P w K mg base CX0 6 "_law_chain" ["_law_many"] (spChain T1 T2) := A.dChain.cal X G fun F => ok_chain F T cTo
  have cSt : Cal P w K mg base CX0 6 "_law_star" ["_law_many"] (spStar T1 T2) := A.dStar.cal X G fun F => ok_star F T cTo
  have cGb : Cal P w K mg base CX0 1 "_law_graph_by" ["_law_nodes_here", "_law_cells"] (spGraph P w K) := A.dGraphBy.cal X G fun F => ok_graphby F T
  have cAs : Cal P w K mg base CX0 1 "_law_asked_by" ["_law_nodes_here", "_law_cell"] spAsked := A.dAskedBy.cal X G fun F => ok_asked F T
  exact ok_law F T nT (cC.mono (by decide)) (cX.mono (by decide)) (cN.mono (by decide)) (cG.mono (by decide)) (cGb.mono (by decide)) (cAs.mono (by decide)) cCh cSt (cR.mono (by decide)) (cTo.mono (by decide)) (cAl.mono (by decide))
theorem all_mk {l : PySem.W.OpenLaw} {w : World} {K : PySem.W.Frag} {h : Heap} {mg : Str → Option Value} {fa f4 c1 T1 c2 T2 : Addr} (X : K.In h) (G : h.Ns mainGlobals mg) (hfa : mg "law" = some (.ref fa)) (A : AllD K) (C1 : DnC K "_law_steps_of" sStepsOf ["_law_graph_here"] c1 T1) (C2 : DnC K "_law_sought_of" sSoughtOf ["_law_goals"] c2 T2) (nt : PySem.W.noTabs K = true)
    {od4 an4 : Option Addr} {sl4 : Array (Option Value)} {oc4 kV4 dc4 pm4 cd4 ct4 : Value}
    (a4 : PySem.W.nsIn K mainGlobals "law" = some (some (.ref f4))) (l4 : K.lookup f4 = some ⟨oc4, od4, .func (PySem.W.fnOf "law" "law" (defArgs sLaw) (defBody sLaw) (defScope sLaw) .none kV4 dc4 pm4 an4 cd4 ct4), sl4⟩) (c4 : PySem.W.codeIn K cd4 "law" = true) (k4 : PySem.W.keepIn K (.ref f4) = true) (nT : T1 ≠ T2) :
    ∃ (fd : FuncData) (c1 T1 c2 T2 : Addr), PySem.W.tabIn K "_law_steps_of" = some (c1, T1) ∧ PySem.W.tabIn K "_law_sought_of" = some (c2, T2) ∧ PySem.W.noTabs K = true ∧ (∀ (s : Shared) (v : Value), BindsTo s fd ⟨[v], []⟩ [("_law_script", v)]) ∧ ∀ base : Heap, K.In base → base.Ns mainGlobals mg → LamB mg base c1 T1 → LamB mg base c2 T2 → FnOk l.prog w K mg base CX0 7 fa fd ["_law_script"] (spLaw K T1 T2) := by
  have e := hfa.symm.trans (PySem.W.mg_of X G a4)
  cases e
  exact ⟨PySem.W.fnOf "law" "law" (defArgs sLaw) (defBody sLaw) (defScope sLaw) .none kV4 dc4 pm4 an4 cd4 ct4, c1, T1, c2, T2, C1.tab, C2.tab, nt, fun s v => .of_eq rfl, fun base _ _ B1 B2 => law_ok X G A C1 C2 B1 B2 nT (fun_mk (st := sLaw) l4 c4 k4)⟩
theorem walk {l : PySem.W.OpenLaw} {q : Program} {loose : List Str} {XP : (Str → Option Value) → Heap → Prop} {YP : World → Heap → Prop} {d d1 d2 : DefRec} {K : Params → PySem.W.Frag} (hn : l.most = some 63) (hdf : d.params.defaults = []) (hrec1 : (recsOf q).find? (fun e => e.name == ("_law_steps_of" : Str)) = some d1) (hrec2 : (recsOf q).find? (fun e => e.name == ("_law_sought_of" : Str)) = some d2)
    (hY : ∀ (w : World) (h : Heap), YP w h → (K w.params).In h)
    (F : ∀ (w : World) (mg : Str → Option Value) (fa : Addr) (h : Heap), (K w.params).In h → h.Ns mainGlobals mg → mg d.name = some (.ref fa) → ∃ (fd : FuncData) (c1 T1 c2 T2 : Addr), PySem.W.tabIn (K w.params) "_law_steps_of" = some (c1, T1) ∧ PySem.W.tabIn (K w.params) "_law_sought_of" = some (c2, T2) ∧ PySem.W.noTabs (K w.params) = true ∧ (∀ (s : Shared) (v : Value), BindsTo s fd ⟨[v], []⟩ [("_law_script", v)]) ∧ ∀ base : Heap, (K w.params).In base → base.Ns mainGlobals mg → LamB mg base c1 T1 → LamB mg base c2 T2 → FnOk l.prog w (K w.params) mg base CX0 7 fa fd ["_law_script"] (spLaw (K w.params) T1 T2)) :
    PySem.W.WalkO q loose XP YP l.row.toRowW d [] (fun f vs => PySem.call f vs) :=
  L2.walk_ofT2 (n := 63) (k := 7) (x := "_law_script") (x1 := "_law_steps_of") (x2 := "_law_sought_of") (CX := fun _ => CX0) (sp := fun w T1 T2 => spLaw (K w.params) T1 T2) hn (by decide) hdf ⟨rfl, by decide, by decide, rfl⟩ hrec1 hrec2 hY F (fun _ _ _ _ a ns hl h1 h2 hS => ⟨a, ns, rfl, hS, hl, h1, h2, fun _ => rfl⟩) fun _ _ _ _ _ z => z
end K61
open PySem PySem.W PyProof.Rows
set_option maxRecDepth 100000 in
set_option maxHeartbeats 0 in
theorem PySem.Challenge.cw_phialhouse_k61_spread_so_deep_holds : PySem.Challenge.rw_phialhouse_k61_spread_so_deep.Holds := by
  w_on; o_law; k_head; (case hw => w_witness2)
  k_fill
  refine K61.walk (l := PySem.Challenge.rw_phialhouse_k61_spread_so_deep) rfl rfl rfl rfl (fun w h Y => PySem.W.km_in_of Y) ?F
  case F =>
    intro w mg fa h KX G hmg
    have dCell : K61.Dn (L2.KOf KX) "_law_cell_at" K61.sCell ["_law_script", "_law_k"] := by
      dsimp only [L2.KOf]
      refine' K61.Dn.mk' ?a ?l ?c ?k ?b
      (case a => k_is); (case l => k_is); (case c => k_is); (case k => k_is)
      (case b => exact fun _ _ _ _ _ _ us hl => match us, hl with | [_, _], _ => rfl)
    have dWhole : K61.Dn (L2.KOf KX) "_law_whole" K61.sWhole ["_law_found"] := by
      dsimp only [L2.KOf]
      refine' K61.Dn.mk' ?a ?l ?c ?k ?b
      (case a => k_is); (case l => k_is); (case c => k_is); (case k => k_is)
      (case b => exact fun _ _ _ _ _ _ us hl => match us, hl with | [_], _ => rfl)
    have dMixed : K61.Dn (L2.KOf KX) "_law_mixed" K61.sMixed ["_law_cell", "_law_k"] := by
      dsimp only [L2.KOf]
      refine' K61.Dn.mk' ?a ?l ?c ?k ?b
      (case a => k_is); (case l => k_is); (case c => k_is); (case k => k_is)
      (case b => exact fun _ _ _ _ _ _ us hl => match us, hl with | [_, _], _ => rfl)
    have dNodes : K61.Dn (L2.KOf KX) "_law_nodes" K61.sNodes ["_law_many", "_law_seed"] := by
      dsimp only [L2.KOf]
      refine' K61.Dn.mk' ?a ?l ?c ?k ?b
      (case a => k_is); (case l => k_is); (case c => k_is); (case k => k_is)
      (case b => exact fun _ _ _ _ _ _ us hl => match us, hl with | [_, _], _ => rfl)
    have dGraph : K61.Dn (L2.KOf KX) "_law_graph" K61.sGraph ["_law_nodes_here", "_law_cells"] := by
      dsimp only [L2.KOf]
      refine' K61.Dn.mk' ?a ?l ?c ?k ?b
      (case a => k_is); (case l => k_is); (case c => k_is); (case k => k_is)
      (case b => exact fun _ _ _ _ _ _ us hl => match us, hl with | [_, _], _ => rfl)
    have dRows : K61.Dn (L2.KOf KX) "_law_rows" K61.sRows ["_law_first", "_law_graph_here", "_law_goals", "_law_deepest", "_law_most"] := by
      dsimp only [L2.KOf]
      refine' K61.Dn.mk' ?a ?l ?c ?k ?b
      (case a => k_is); (case l => k_is); (case c => k_is); (case k => k_is)
      (case b => exact fun _ _ _ _ _ _ us hl => match us, hl with | [_, _, _, _, _], _ => rfl)
    have dTold : K61.Dn (L2.KOf KX) "_law_told" K61.sTold ["_law_first", "_law_graph_here", "_law_goals", "_law_deepest", "_law_most"] := by
      dsimp only [L2.KOf]
      refine' K61.Dn.mk' ?a ?l ?c ?k ?b
      (case a => k_is); (case l => k_is); (case c => k_is); (case k => k_is)
      (case b => exact fun _ _ _ _ _ _ us hl => match us, hl with | [_, _, _, _, _], _ => rfl)
    have dAlike : K61.Dn (L2.KOf KX) "_law_alike" K61.sAlike ["_law_found", "_law_due"] := by
      dsimp only [L2.KOf]
      refine' K61.Dn.mk' ?a ?l ?c ?k ?b
      (case a => k_is); (case l => k_is); (case c => k_is); (case k => k_is)
      (case b => exact fun _ _ _ _ _ _ us hl => match us, hl with | [_, _], _ => rfl)
    have dChain : K61.Dn (L2.KOf KX) "_law_chain" K61.sChain ["_law_many"] := by
      dsimp only [L2.KOf]
      refine' K61.Dn.mk' ?a ?l ?c ?k ?b
      (case a => k_is); (case l => k_is); (case c => k_is); (case k => k_is)
      (case b => exact fun _ _ _ _ _ _ us hl => match us, hl with | [_], _ => rfl)
    have dStar : K61.Dn (L2.KOf KX) "_law_star" K61.sStar ["_law_many"] := by
      dsimp only [L2.KOf]
      refine' K61.Dn.mk' ?a ?l ?c ?k ?b
      (case a => k_is); (case l => k_is); (case c => k_is); (case k => k_is)
      (case b => exact fun _ _ _ _ _ _ us hl => match us, hl with | [_], _ => rfl)
    have dGraphBy : K61.Dn (L2.KOf KX) "_law_graph_by" K61.sGraphBy ["_law_nodes_here", "_law_cells"] := by
      dsimp only [L2.KOf]
      refine' K61.Dn.mk' ?a ?l ?c ?k ?b
      (case a => k_is); (case l => k_is); (case c => k_is); (case k => k_is)
      (case b => exact fun _ _ _ _ _ _ us hl => match us, hl with | [_, _], _ => rfl)
    have dAskedBy : K61.Dn (L2.KOf KX) "_law_asked_by" K61.sAskedBy ["_law_nodes_here", "_law_cell"] := by
      dsimp only [L2.KOf]
      refine' K61.Dn.mk' ?a ?l ?c ?k ?b
      (case a => k_is); (case l => k_is); (case c => k_is); (case k => k_is)
      (case b => exact fun _ _ _ _ _ _ us hl => match us, hl with | [_, _], _ => rfl)
    have z0 : PySem.W.nsIn (L2.KOf KX) mainGlobals "isinstance" = some none := by
      dsimp only [L2.KOf]
      k_is
    have z1 : PySem.W.nsIn (L2.KOf KX) mainGlobals "int" = some none := by
      dsimp only [L2.KOf]
      k_is
    have z2 : PySem.W.nsIn (L2.KOf KX) mainGlobals "bool" = some none := by
      dsimp only [L2.KOf]
      k_is
    have z3 : PySem.W.nsIn (L2.KOf KX) mainGlobals "tuple" = some none := by
      dsimp only [L2.KOf]
      k_is
    have z4 : PySem.W.nsIn (L2.KOf KX) mainGlobals "str" = some none := by
      dsimp only [L2.KOf]
      k_is
    have z5 : PySem.W.nsIn (L2.KOf KX) mainGlobals "len" = some none := by
      dsimp only [L2.KOf]
      k_is
    have z6 : PySem.W.nsIn (L2.KOf KX) mainGlobals "range" = some none := by
      dsimp only [L2.KOf]
      k_is
    have z7 : PySem.W.nsIn (L2.KOf KX) mainGlobals "min" = some none := by
      dsimp only [L2.KOf]
      k_is
    have z8 : PySem.W.nsIn (L2.KOf KX) mainGlobals "abs" = some none := by
      dsimp only [L2.KOf]
      k_is
    have z9 : PySem.W.nsIn (L2.KOf KX) mainGlobals "list" = some none := by
      dsimp only [L2.KOf]
      k_is
    have z10 : PySem.W.nsIn (L2.KOf KX) mainGlobals "ValueError" = some none := by
      dsimp only [L2.KOf]
      k_is
    have sp : K61.SpK (L2.KOf KX) := by
      dsimp only [L2.KOf]
      refine' K61.SpK.mk' ?a ?l ?c ?k ?d
      (case a => k_is); (case l => k_is); (case c => k_is); (case k => k_is); (case d => k_is)
    have err : ∃ cP cM fI : Addr, K61.ErNK (L2.KOf KX) cP cM fI := by
      dsimp only [L2.KOf]
      refine' K61.err_mk ?mP ?mM ?lk ?ni ⟨⟨?xi, ?xf, ?xk, ⟨?x1, ?x2, ?x3, ?x4, ?x5, ?x6⟩⟩, ?sa, ?nn⟩ ⟨?y1, ?y2, ?y3⟩ ?s ⟨?b1, ?b2, ?b3⟩ ?iP ?iV (K61.fnI_mk ?l ?c ?k)
      (case mP => k_is); (case mM => k_is)
      (case lk => k_is); (case ni => k_is); (case xi => first | kernel_rfl | rfl); (case xf => k_is); (case xk => k_is)
      (case x1 => k_is); (case x2 => k_is); (case x3 => k_is); (case x4 => k_is); (case x5 => k_is); (case x6 => (show PySem.W.isClsIn _ _ = true; k_is)); (case sa => k_is); (case nn => k_is)
      (case y1 => k_is); (case y2 => (show PySem.W.isClsIn _ _ = true; k_is)); (case y3 => k_is); (case s => k_is); (case b1 => k_is); (case b2 => k_is); (case b3 => k_is); (case iP => kit_is); (case iV => kit_is)
      (case l => k_is); (case c => k_is); (case k => k_is)
    have nt : PySem.W.noTabs (L2.KOf KX) = true := by
      dsimp only [L2.KOf]
      kernel_rfl
    refine' K61.all_mk KX G hmg ⟨dCell, dWhole, dMixed, dNodes, dGraph, dRows, dTold, dAlike, dChain, dStar, dGraphBy, dAskedBy, z0, z1, z2, z3, z4, z5, z6, z7, z8, z9, z10, sp, err⟩ (K61.DnC.mk' ?ap ?lp ?cp ?kp ?lc ?hv ?bp) (K61.DnC.mk' ?aq ?lq ?cq ?kq ?ld ?hw ?bq) nt ?a4 ?l4 ?c4 ?k4 ?nT
    (case ap => k_is); (case lp => k_is); (case cp => k_is); (case kp => k_is); (case lc => k_is); (case hv => rfl)
    (case bp => exact fun _ _ _ _ _ _ us hl => match us, hl with | [_], _ => rfl)
    (case aq => k_is); (case lq => k_is); (case cq => k_is); (case kq => k_is); (case ld => k_is); (case hw => rfl)
    (case bq => exact fun _ _ _ _ _ _ us hl => match us, hl with | [_], _ => rfl)
    (case a4 => k_is); (case l4 => k_is); (case c4 => k_is); (case k4 => k_is); (case nT => decide)

