import PyProof.Rows.All
import Wide.All
import OpenK.AllK
import Wide.FinOn
import Lean
import PyProof.EqAt
import PyProof.EqKinds
import PyProof.TupleCall
import PySem.Challenge.RW_phialhouse_k64_whole_strength_asked
set_option Elab.async false
set_option linter.all false
set_option maxRecDepth 100000
set_option maxHeartbeats 4000000
/-! THE HAND LAYER, for ints, bools, texts, own classes, LISTS and tuples (index, slices, in, append, pop ..), calls, loops. Paste it whole ahead of your own text; what your proof does not reach may be deleted. -/
namespace L2
open PySem PySem.Spec PyProof.Rows

/-- a key: an int or a str -/
abbrev Key := Sum Int Str
def keyIs : Key → Value → Bool
  | .inl k, v => Value.isInt k v
  | .inr x, v => Value.isStrOf x v
def keyH (w : World) : Key → Int
  | .inl k => hashInt k
  | .inr x => hashStr w x
theorem keyIs_shape : ∀ {k : Key} {v : Value}, keyIs k v = true → (∃ i t, k = Sum.inl i ∧ v = Value.int i t) ∨ (∃ x t, k = Sum.inr x ∧ v = Value.str x t)
  | .inl i, v, h => by
    obtain ⟨t, e⟩ := Value.isInt_shape (k := i) (v := v) h
    exact .inl ⟨i, t, rfl, e⟩
  | .inr x, v, h => by
    obtain ⟨t, e⟩ := Value.isStrOf_shape (x := x) (v := v) h
    exact .inr ⟨x, t, rfl, e⟩
theorem keyIs_int (i : Int) (t : Tok) : keyIs (.inl i) (.int i t) = true := by simp [keyIs, Value.isInt]
theorem keyIs_str (x : Str) (t : Tok) : keyIs (.inr x) (.str x t) = true := by simp [keyIs, Value.isStrOf]
theorem key_ll (a b : Int) : decide ((Sum.inl a : Key) = Sum.inl b) = (a == b) := by
  by_cases e : a = b
  · subst e; simp
  · have h : ¬ (Sum.inl a : Key) = Sum.inl b := fun q => e (Sum.inl.inj q)
    rw [decide_eq_false h]
    exact (beq_eq_false_iff_ne.mpr e).symm
theorem key_rr (a b : Str) : decide ((Sum.inr a : Key) = Sum.inr b) = decide (a = b) := by
  by_cases e : a = b
  · subst e; simp
  · have h : ¬ (Sum.inr a : Key) = Sum.inr b := fun q => e (Sum.inr.inj q)
    rw [decide_eq_false h, decide_eq_false e]
theorem key_lr (a : Int) (b : Str) : decide ((Sum.inl a : Key) = Sum.inr b) = false := decide_eq_false (fun q => nomatch q)
theorem key_rl (a : Str) (b : Int) : decide ((Sum.inr a : Key) = Sum.inl b) = false := decide_eq_false (fun q => nomatch q)

def mixKind (prog : Program) (w : World) : PySem.KeyKind prog w Key where
  is := keyIs
  hash := keyH w
  inj := fun v a b ha hb => by
    rcases keyIs_shape ha with ⟨i, t, rfl, rfl⟩ | ⟨x, t, rfl, rfl⟩
    · rcases keyIs_shape hb with ⟨j, u, rfl, e⟩ | ⟨y, u, rfl, e⟩
      · injection e with e1 _; rw [e1]
      · exact nomatch e
    · rcases keyIs_shape hb with ⟨j, u, rfl, e⟩ | ⟨y, u, rfl, e⟩
      · exact nomatch e
      · injection e with e1 _; rw [e1]
  byValue := fun k v h => by
    rcases keyIs_shape h with ⟨i, t, rfl, rfl⟩ | ⟨x, t, rfl, rfl⟩ <;> rfl
  pyHash := fun hv h => by
    rcases keyIs_shape hv with ⟨i, t, rfl, rfl⟩ | ⟨x, t, rfl, rfl⟩
    · exact wpAny_pyHash_int h
    · exact wpAny_pyHash_str h
  eqBool := fun hu hv h => by
    rcases keyIs_shape hu with ⟨i, t, rfl, rfl⟩ | ⟨x, t, rfl, rfl⟩
    · rcases keyIs_shape hv with ⟨j, u, rfl, rfl⟩ | ⟨y, u, rfl, rfl⟩
      · rw [key_ll] at h; exact wpAny_eqBool_int h
      · rw [key_lr] at h; exact SeqAt.EqAt.int_str i t y u _ _ _ _ h
    · rcases keyIs_shape hv with ⟨j, u, rfl, rfl⟩ | ⟨y, u, rfl, rfl⟩
      · rw [key_rl] at h; exact SeqAt.EqAt.str_int x t j u _ _ _ _ h
      · rw [key_rr] at h; exact wpAny_eqBool_str h
  «strs» := fun k x t v h => by
    rcases keyIs_shape h with ⟨i, u, rfl, e⟩ | ⟨y, u, rfl, e⟩
    · exact nomatch e
    · injection e with e1 _
      subst e1
      cases v <;> rfl

theorem mixKind_int (prog : Program) (w : World) (i : Int) (t : Tok) : (mixKind prog w).is (.inl i) (.int i t) = true := keyIs_int i t
theorem mixKind_str (prog : Program) (w : World) (x : Str) (t : Tok) : (mixKind prog w).is (.inr x) (.str x t) = true := keyIs_str x t
end L2

namespace L2
open PySem PySem.Spec PyProof.Rows

/-- a value, without the heap -/
inductive V where
  | non | bl (b : Bool) | int (i : Int) | str (x : Str) | byt (b : Array UInt8) | flt (b : UInt64) | ref (a : Addr) | ty (n : String)
  deriving DecidableEq

def RelV : V → Value → Prop
  | .non, u => u = Value.none
  | .bl b, u => u = Value.bool b
  | .int i, u => ∃ t, u = Value.int i t
  | .str x, u => ∃ t, u = Value.str x t
  | .byt b, u => ∃ t, u = Value.bytes b t
  | .flt b, u => ∃ t, u = Value.float b t
  | .ref a, u => u = Value.ref a
  | .ty n, u => u = Value.type n

abbrev Vals : List V → List Value → Prop := Paired RelV
theorem Vals.length {xs : List V} {us : List Value} (r : Vals xs us) : xs.length = us.length := Paired.length r
theorem Vals.get : ∀ {xs : List V} {us : List Value} {i : Nat} {x : V}, Vals xs us → xs[i]? = some x → ∃ u, us[i]? = some u ∧ RelV x u
  | _, _, _, _, .nil, e => by simp at e
  | _, _, 0, _, .cons r _, e => by simp at e; subst e; exact ⟨_, rfl, r⟩
  | _, _, i + 1, x, .cons _ t, e => by
    obtain ⟨u, h1, h2⟩ := Vals.get (i := i) (x := x) t (by simpa using e)
    exact ⟨u, by simpa using h1, h2⟩
theorem Vals.append : ∀ {xs ys : List V} {us ws : List Value}, Vals xs us → Vals ys ws → Vals (xs ++ ys) (us ++ ws)
  | _, _, _, _, .nil, s => s
  | _, _, _, _, .cons r t, s => .cons r (Vals.append t s)
theorem Vals.take : ∀ {xs : List V} {us : List Value} (n : Nat), Vals xs us → Vals (xs.take n) (us.take n)
  | _, _, 0, _ => .nil
  | _, _, _ + 1, .nil => .nil
  | _, _, n + 1, .cons r t => .cons r (Vals.take n t)
theorem Vals.drop : ∀ {xs : List V} {us : List Value} (n : Nat), Vals xs us → Vals (xs.drop n) (us.drop n)
  | _, _, 0, r => r
  | _, _, _ + 1, .nil => .nil
  | _, _, n + 1, .cons _ t => Vals.drop n t
def RelO : Option V → Option Value → Prop
  | some v, some u => RelV v u
  | none, none => True
  | _, _ => False
def KV {κ : Type} : List (κ × V) → List (κ × Value) → Prop := Paired fun (p : κ × V) (q : κ × Value) => p.1 = q.1 ∧ RelV p.2 q.2

/-- a key of a dict (00_mix): an int or a text -/
def kV : Key → V
  | .inl i => .int i
  | .inr x => .str x

/-- what stands at a tracked address -/
inductive HO where
  /-- a list -/
  | lst (xs : List V)
  /-- a tuple (never changes) -/
  | tup (xs : List V)
  /-- a dict whose keys are ints and texts; one whose keys are tuples of ints and texts (the empty one is both) -/
  | dK (kvs : List (Key × V)) | dT (kvs : List (List Key × V))
  /-- a set of ints: its members, its size -/
  | set (S : Int → Bool) (n : Nat)
  /-- an instance of the class at C, its dict at dx, its attributes -/
  | ins (C dx : Addr) (fs : List (Str × V))
  /-- the dict of the instance at x -/
  | own (x : Addr)
  /-- the dict of an exception -/
  | xd (fs : List (Str × V))
  /-- a bound method, f of x -/
  | met (f x : Addr)
  /-- a range object lo, lo + 1, .. below hi -/
  | rng (lo hi : Int)
  /-- a thing that is known to the object (the script; a dict while a loop walks it): read, never written while it is so -/
  | frz (o : Obj) (u : HO)
  /-- a code object's table -/
  | tbl (ps : Array Value)
  /-- any other thing, by what is true of its one object (a def of one's own: SetO a S n := HO.ext fun h => ..) -/
  | ext (φ : Heap → Prop)

abbrev Hp := Addr → Option HO
def upd (H : Hp) (a : Addr) (o : HO) : Hp := fun b => if b = a then some o else H b
theorem upd_same {H : Hp} {a : Addr} {o : HO} : upd H a o a = some o := by unfold upd; rw [if_pos rfl]
theorem upd_ne {H : Hp} {a b : Addr} {o : HO} (h : b ≠ a) : upd H a o b = H b := by unfold upd; rw [if_neg h]
/-- two objects of different content stand apart -/
theorem ne_of {H : Hp} {a b : Addr} {o u : HO} (h : H a = some o) (h' : H b = some u) (d : o ≠ u) : a ≠ b := by
  intro e; subst e; rw [h] at h'; exact d (Option.some.inj h')
theorem ne_of_none {H : Hp} {a b : Addr} {o : HO} (h : H a = some o) (h' : H b = none) : a ≠ b := by
  intro e; subst e; rw [h] at h'; cases h'

/-- no dict of its own -/
def NoD (h : Heap) (a : Addr) : Prop := ∃ o, h.get? a = some o ∧ o.dict = none
section
variable (P : Program) (w : World)
def ObjOk (H : Hp) (h : Heap) (a : Addr) : HO → Prop
  | .lst xs => xs.length ≤ sizeLine ∧ ∃ (its : List Value) (n : Nat), Vals xs its ∧ h.get? a = some { cls := .type "list", data := .seq its.toArray n }
  | .tup xs => (xs.length ≤ sizeLine ∧ NoD h a) ∧ ∃ its : List Value, Vals xs its ∧ IsTup h a its.toArray
  | .dK kvs => kvs.length ≤ sizeLine ∧ (a == sysModules) = false ∧ ∃ vs, KV kvs vs ∧ h.DictOf (mixKind P w) a vs
  | .dT kvs => kvs.length ≤ sizeLine ∧ (a == sysModules) = false ∧ ∃ xs : List (List Key × Addr × Value),
      Paired (fun (p : List Key × V) (q : List Key × Addr × Value) => p.1 = q.1 ∧ H q.2.1 = some (.tup (p.1.map kV)) ∧ RelV p.2 q.2.2) kvs xs ∧
      ∃ o es ep, h.get? a = some o ∧ o.ExactDict ∧ o.data = .dict es ep ∧ es.toList = xs.map (entryOfKey (tupleKind (mixKind P w))) ∧ (xs.map (·.1)).Nodup
  | .set S n => h.SetOf (intKind P w) a S n
  | .ins C dx fs => H dx = some (.own a) ∧ fs.length ≤ 1000 ∧ dx ≠ a ∧ h.get? a = some (PySem.W.instObj C dx) ∧
      ∃ mA, h.Ns1 dx mA ∧ (∀ f, RelO (fs.lookup f) (mA f)) ∧ PySem.Within mA (fs.map (·.1))
  | .own _ => ∃ o, h.get? a = some o
  | .xd fs => ∃ mA, h.Ns1 a mA ∧ ∀ f, RelO (fs.lookup f) (mA f)
  | .rng lo hi => ∃ t u v, h.get? a = some { cls := .type "range", data := .fields #[.int lo t, .int hi u, .int 1 v] }
  | .frz o u => h.get? a = some o ∧ ObjOk H h a u
  | .tbl ps => h.get? a = some { cls := .none, data := .fields ps }
  | .met f x => h.get? a = some (PySem.W.methodObj (.ref f) (.ref x))
  | .ext φ => φ h ∧ (∃ o, h.get? a = some o) ∧ ∀ h1 h2 : Heap, φ h1 → (∀ o, h1.get? a = some o → h2.get? a = some o) → φ h2
/-- the abstract heap is held -/
def HOk (H : Hp) (h : Heap) : Prop := ∀ a o, H a = some o → ObjOk P w H h a o
end

section
variable {P : Program} {w : World} {H H' : Hp} {h h' : Heap} {a : Addr} {o : HO}
theorem ObjOk.lt (x : ObjOk P w H h a o) : a < h.objs.size := by
  cases o with
  | lst xs => obtain ⟨_, _, _, _, e⟩ := x; exact Heap.lt_size e
  | tup xs => obtain ⟨_, _, _, p⟩ := x; exact p.lt
  | dK kvs => obtain ⟨_, _, _, _, o, _, _, e, _⟩ := x; exact Heap.lt_size e
  | dT kvs => obtain ⟨_, _, _, _, o, _, _, e, _⟩ := x; exact Heap.lt_size e
  | set S n => obtain ⟨o, _, _, _, e, _⟩ := x; exact Heap.lt_size e
  | ins C dx fs => obtain ⟨_, _, _, e, _⟩ := x; exact Heap.lt_size e
  | own y => obtain ⟨_, e⟩ := x; exact Heap.lt_size e
  | xd fs => obtain ⟨_, ⟨_, _, _, e, _⟩, _⟩ := x; exact Heap.lt_size e
  | rng lo hi => obtain ⟨_, _, _, e⟩ := x; exact Heap.lt_size e
  | frz ob u => obtain ⟨e, _⟩ := x; exact Heap.lt_size e
  | tbl ps => exact Heap.lt_size (show h.get? a = some _ from x)
  | met f y => exact Heap.lt_size (show h.get? a = some _ from x)
  | ext φ => obtain ⟨_, ⟨_, e⟩, _⟩ := x; exact Heap.lt_size e
theorem Paired.mapP {α β : Type} {F G : α → β → Prop} : ∀ {l₁ : List α} {l₂ : List β}, Paired F l₁ l₂ → (∀ a b, F a b → G a b) → Paired G l₁ l₂
  | _, _, .nil, _ => .nil
  | _, _, .cons r t, f => .cons (f _ _ r) (Paired.mapP t f)
/-- what an object's description leans on: its own object, its own dict, the tuples -/
theorem ObjOk.stay (x : ObjOk P w H h a o) (k : ∀ b u, (b = a ∨ H b = some (.own a)) → h.get? b = some u → h'.get? b = some u)
    (ho : ∀ b, H b = some (.own a) → H' b = some (.own a)) (ht : ∀ b xs, H b = some (.tup xs) → H' b = some (.tup xs)) : ObjOk P w H' h' a o := by
  induction o with
  | lst xs => obtain ⟨z, its, n, r, e⟩ := x; exact ⟨z, its, n, r, k _ _ (.inl rfl) e⟩
  | tup xs => obtain ⟨⟨z, o1, e1, d1⟩, its, r, ob, e, c⟩ := x; exact ⟨⟨z, o1, k _ _ (.inl rfl) e1, d1⟩, its, r, ob, k _ _ (.inl rfl) e, c⟩
  | dK kvs => obtain ⟨z, y, vs, r, ob, es, ep, e, c⟩ := x; exact ⟨z, y, vs, r, ob, es, ep, k _ _ (.inl rfl) e, c⟩
  | dT kvs =>
    obtain ⟨z, y, xs, r, ob, es, ep, e, c⟩ := x
    exact ⟨z, y, xs, Paired.mapP r fun p q z => ⟨z.1, ht _ _ z.2.1, z.2.2⟩, ob, es, ep, k _ _ (.inl rfl) e, c⟩
  | set S n => obtain ⟨ob, es, ep, t, e, c⟩ := x; exact ⟨ob, es, ep, t, k _ _ (.inl rfl) e, c⟩
  | ins C dx fs =>
    obtain ⟨d, z, ne, e, mA, ⟨od, es, ep, e2, c⟩, r⟩ := x
    exact ⟨ho _ d, z, ne, k _ _ (.inl rfl) e, mA, ⟨od, es, ep, k _ _ (.inr d) e2, c⟩, r⟩
  | own y => obtain ⟨ob, e⟩ := x; exact ⟨ob, k _ _ (.inl rfl) e⟩
  | xd fs => obtain ⟨mA, ⟨od, es, ep, e, c⟩, r⟩ := x; exact ⟨mA, ⟨od, es, ep, k _ _ (.inl rfl) e, c⟩, r⟩
  | rng lo hi => obtain ⟨t, u, v, e⟩ := x; exact ⟨t, u, v, k _ _ (.inl rfl) e⟩
  | frz ob u ih => obtain ⟨e, q⟩ := x; exact ⟨k _ _ (.inl rfl) e, ih q⟩
  | tbl ps =>
    have e : h.get? a = some { cls := .none, data := .fields ps } := x
    show h'.get? a = some { cls := .none, data := .fields ps }
    exact k a _ (.inl rfl) e
  | met f y =>
    have e : h.get? a = some (PySem.W.methodObj (.ref f) (.ref y)) := x
    show h'.get? a = some (PySem.W.methodObj (.ref f) (.ref y))
    exact k a _ (.inl rfl) e
  | ext φ => obtain ⟨p, ⟨o, e⟩, st⟩ := x; exact ⟨st _ _ p fun o q => k _ _ (.inl rfl) q, ⟨o, k _ _ (.inl rfl) e⟩, st⟩
theorem HOk.lt (x : HOk P w H h) (e : H a = some o) : a < h.objs.size := (x a o e).lt
theorem HOk.fresh (x : HOk P w H h) (e : h.objs.size ≤ a) : H a = none := by
  cases q : H a with
  | none => rfl
  | some u => exact absurd (Nat.lt_of_lt_of_le (x.lt q) e) (Nat.lt_irrefl _)
/-- every object of the heap is kept -/
theorem HOk.kept (x : HOk P w H h) (k : ∀ b u, h.get? b = some u → h'.get? b = some u) : HOk P w H h' := fun a o e =>
  (x a o e).stay (fun b u _ q => k b u q) (fun _ q => q) fun _ _ q => q
/-- a new object is laid and tracked -/
theorem HOk.laid (x : HOk P w H h) (k : ∀ b u, h.get? b = some u → h'.get? b = some u) (hp : h.objs.size ≤ a) (new : ObjOk P w (upd H a o) h' a o) : HOk P w (upd H a o) h' := fun b u e => by
  have hn := x.fresh hp
  by_cases hb : b = a
  · subst hb; rw [upd_same] at e; cases e; exact new
  · rw [upd_ne hb] at e
    exact (x b u e).stay (fun c v _ q => k c v q) (fun c q => by rw [upd_ne (ne_of_none q hn)]; exact q) fun c xs q => by rw [upd_ne (ne_of_none q hn)]; exact q
end

/-- what may be read as u: it is u, or a known u -/
def Rd (H : Hp) (a : Addr) (u : HO) : Prop := H a = some u ∨ ∃ o, H a = some (.frz o u)
theorem Rd.ok {P : Program} {w : World} {H : Hp} {h : Heap} {a : Addr} {u : HO} (r : Rd H a u) (x : HOk P w H h) : ObjOk P w H h a u := by
  rcases r with r | ⟨o, r⟩
  · exact x a u r
  · obtain ⟨_, q⟩ := x a _ r
    exact q
/-- what may be written -/
def Mut : Option HO → Prop
  | some (.lst _) => True
  | some (.dK _) => True
  | some (.dT _) => True
  | some (.set _ _) => True
  | some (.ins _ _ _) => True
  | some (.ext _) => True
  | _ => False
section
variable {P : Program} {w : World} {H : Hp} {h h' : Heap} {x e : Addr} {o' : HO}
/-- the object at e is changed: x itself, or the dict of the instance x -/
theorem HOk.write (ok : HOk P w H h) (mu : Mut (H x)) (he : e = x ∨ H e = some (.own x)) (k : ∀ b u, b ≠ e → h.get? b = some u → h'.get? b = some u) (heo : ∃ u, h'.get? e = some u)
    (new : ObjOk P w (upd H x o') h' x o') : HOk P w (upd H x o') h' := fun b u q => by
  have nown : ∀ c y, H c = some (.own y) → c ≠ x := fun c y r z => by subst z; rw [r] at mu; exact mu
  have ntup : ∀ c xs, H c = some (.tup xs) → c ≠ x := fun c xs r z => by subst z; rw [r] at mu; exact mu
  by_cases hb : b = x
  · subst hb; rw [upd_same] at q; cases q; exact new
  · rw [upd_ne hb] at q
    by_cases hbe : b = e
    · have q' : H b = some (.own x) := by
        rcases he with z | z
        · exact absurd (hbe.trans z) hb
        · rw [hbe]; exact z
      rw [q] at q'; cases q'
      obtain ⟨v, hv⟩ := heo
      exact ⟨v, by rw [hbe]; exact hv⟩
    · refine (ok b u q).stay (fun c v hc r => k c v ?_ r) (fun c r => by rw [upd_ne (nown c b r)]; exact r) fun c xs r => by rw [upd_ne (ntup c xs r)]; exact r
      rcases hc with rfl | hc
      · exact hbe
      · rintro rfl
        rcases he with z | z
        · exact nown c b hc z
        · rw [hc] at z; cases z; exact hb rfl
end

/-! ### kept unless tracked; of the frames at fs (the callers') the slots may change (an exception that passes writes there); of the records at ex (iterators) nothing is said -/
structure Un (fs ex : List Addr) (H H' : Hp) (h h' : Heap) : Prop where
  keep : ∀ b o, h.get? b = some o → H b = none → b ∉ fs → b ∉ ex → h'.get? b = some o
  slot : ∀ b o, h.get? b = some o → H b = none → b ∈ fs → b ∉ ex → ∃ sl, h'.get? b = some { o with slots := sl }
  free : ∀ b o, h.get? b = some o → H b = none → b ∉ ex → H' b = none
  there : ∀ b o, h.get? b = some o → b ∉ ex → ∃ o', h'.get? b = some o'
  tups : ∀ b xs, H b = some (.tup xs) → H' b = some (.tup xs)
  frzs : ∀ b o u, H b = some (.frz o u) → H' b = some (.frz o u)
  tbls : ∀ b ps, H b = some (.tbl ps) → ∃ more, H' b = some (.tbl (ps ++ more))
section
variable {fs fs' ex ex' : List Addr} {H H1 H2 : Hp} {h h1 h2 h' : Heap} {a x e : Addr} {o : HO}
theorem Un.any (u : Un fs ex H H1 h h1) {b : Addr} {ob : Obj} (q : h.get? b = some ob) (n : H b = none) (hx : b ∉ ex) : ∃ sl, h1.get? b = some { ob with slots := sl } := by
  by_cases hb : b ∈ fs
  · exact u.slot b ob q n hb hx
  · exact ⟨ob.slots, u.keep b ob q n hb hx⟩
theorem Un.kept (k : ∀ b u, h.get? b = some u → h'.get? b = some u) : Un fs ex H H h h' :=
  ⟨fun b ob q _ _ _ => k b ob q, fun b ob q _ _ _ => ⟨ob.slots, k b ob q⟩, fun _ _ _ n _ => n, fun b ob q _ => ⟨ob, k b ob q⟩, fun _ _ q => q, fun _ _ _ q => q, fun _ ps q => ⟨#[], by rw [q]; simp⟩⟩
theorem Un.refl : Un fs ex H H h h := Un.kept fun _ _ q => q
theorem Un.laid (k : ∀ b u, h.get? b = some u → h'.get? b = some u) (hp : h.objs.size ≤ a) (hn : H a = none) : Un fs ex H (upd H a o) h h' where
  keep := fun b u q _ _ _ => k b u q
  slot := fun b u q _ _ _ => ⟨u.slots, k b u q⟩
  free := fun b u q n _ => by rw [upd_ne (Nat.ne_of_lt (Nat.lt_of_lt_of_le (Heap.lt_size q) hp))]; exact n
  there := fun b u q _ => ⟨u, k b u q⟩
  tups := fun b xs q => by rw [upd_ne (ne_of_none q hn)]; exact q
  frzs := fun b u xs q => by rw [upd_ne (ne_of_none q hn)]; exact q
  tbls := fun b ps q => ⟨#[], by rw [upd_ne (ne_of_none q hn), q]; simp⟩
theorem Un.write (mu : Mut (H x)) (he : e = x ∨ H e = some (.own x)) (k : ∀ b u, b ≠ e → h.get? b = some u → h'.get? b = some u) (heo : ∃ u, h'.get? e = some u) : Un fs ex H (upd H x o) h h' := by
  have hx : ∀ b, H b = none → b ≠ x := fun b n z => by subst z; rw [n] at mu; exact mu
  have hb : ∀ b, H b = none → b ≠ e := fun b n z => by
    subst z
    rcases he with r | r
    · exact hx b n r
    · rw [n] at r; cases r
  have hm : ∀ b u, H b = some u → ¬ Mut (some u) → b ≠ x := fun b u q nm z => by subst z; rw [q] at mu; exact nm mu
  refine ⟨fun b u q n _ _ => k b u (hb b n) q, fun b u q n _ _ => ⟨u.slots, k b u (hb b n) q⟩, fun b u q n _ => by rw [upd_ne (hx b n)]; exact n, fun b u q _ => ?_,
    fun b xs q => by rw [upd_ne (hm b _ q fun z => z)]; exact q, fun b u xs q => by rw [upd_ne (hm b _ q fun z => z)]; exact q, fun b ps q => ⟨#[], by rw [upd_ne (hm b _ q fun z => z), q]; simp⟩⟩
  by_cases hbe : b = e
  · subst hbe; exact heo
  · exact ⟨u, k b u hbe q⟩
end

/-! ### the heap without what is tracked -/
def trk (h : Heap) (H : Hp) : List Addr := (List.range h.objs.size).filter fun a => (H a).isSome
def hidT (h : Heap) (H : Hp) : Heap := PySem.W.hideAll h (trk h H)
theorem hidT_size (h : Heap) (H : Hp) : (hidT h H).objs.size = h.objs.size := PySem.W.hideAll_size _ _
theorem hidT_get {h : Heap} {H : Hp} {b : Addr} {o : Obj} (e : h.get? b = some o) (n : H b = none) : (hidT h H).get? b = some o :=
  PySem.W.hideAll_get _ e fun hm => by
    have q : (H b).isSome = true := (List.mem_filter.mp hm).2
    rw [n] at q; simp at q
theorem of_hidT {h : Heap} {H : Hp} {b : Addr} {o : Obj} (e : (hidT h H).get? b = some o) : h.get? b = some o ∧ H b = none := by
  have e' : h.get? b = some o := PySem.W.of_hideAll (trk h H) e
  refine ⟨e', ?_⟩
  cases q : H b with
  | none => rfl
  | some x =>
    have hm : b ∈ trk h H := List.mem_filter.mpr ⟨List.mem_range.mpr (Heap.lt_size e'), by simp [q]⟩
    have z : (hidT h H).get? b = none := PySem.W.hideAll_none (trk h H) hm
    rw [z] at e; cases e

/-! ### OpenK's ledger, filled with every new object but one -/
def allNews (g h : Heap) (L : Addr) : List (Addr × Obj) := (List.range h.objs.size).filterMap fun a => if a = L ∨ (g.get? a).isSome = true then none else (h.get? a).map fun o => (a, o)
theorem mem_allNews {g h : Heap} {L a : Addr} {o : Obj} (h1 : a ≠ L) (h2 : g.get? a = none) (h3 : h.get? a = some o) : (a, o) ∈ allNews g h L :=
  List.mem_filterMap.mpr ⟨a, List.mem_range.mpr (Heap.lt_size h3), by simp [h1, h2, h3]⟩
theorem of_mem_allNews {g h : Heap} {L : Addr} {p : Addr × Obj} (hp : p ∈ allNews g h L) : p.1 ≠ L ∧ g.get? p.1 = none ∧ h.get? p.1 = some p.2 := by
  obtain ⟨b, _, e⟩ := List.mem_filterMap.mp hp
  split at e
  · cases e
  · rename_i hn
    cases q : h.get? b with
    | none => rw [q] at e; simp at e
    | some u =>
      rw [q] at e
      simp only [Option.map_some, Option.some.injEq] at e
      subst e
      refine ⟨fun z => hn (.inl z), ?_, q⟩
      show g.get? b = none
      cases r : g.get? b with
      | none => rfl
      | some v => exact (hn (.inr (by simp [r]))).elim
def rest (g h : Heap) (L d : Addr) : List (Addr × Obj) := (allNews g h L).filter fun p => decide (p.1 ≠ d)
theorem news_all {g h : Heap} {L : Addr} : News g L h (allNews g h L) := fun p hp => let ⟨a, b, c⟩ := of_mem_allNews hp; ⟨c, a, b⟩
end L2

namespace L2
open PySem PySem.Spec PyProof.Rows

/-- the module's facts, over the base: the heap at the law's entry without what is tracked there -/
structure Mod (K : PySem.W.Frag) (mg : Str → Option Value) (base : Heap) : Prop where
  kin : K.In base
  glob : base.Ns mainGlobals mg
  blt : ∃ mb, base.Ns builtinsNs mb ∧ ∀ x : Str, x ≠ "__name__" → mb x = bootBuiltins x
  nolimit : base.NoLimit

/-- the context: a def's body (or a comprehension's block) running. base: fixed through the whole law; s₀, H₀: the entry; outer: the frames whose slots others may change (a def's callers); stack: all frames that run;
   ex: iterators that were made ahead of the entry and are walked here (a comprehension's); fn: the names whose cells were made at the entry (a def: all; a comprehension's block: its own); calm: not within an except suite; pn: pins that every state bears; xe: what is wanted of an exception that leaves the code -/
structure Cx where
  prog : Program
  w : World
  K : PySem.W.Frag
  mg : Str → Option Value
  base : Heap
  A : Around
  N : List Str
  s₀ : Shared
  H₀ : Hp
  env : Env
  outer : List Env
  stack : List Env
  ex : List Addr
  fn : Str → Bool
  calm : Bool
  pn : List (Addr × Obj)
  xe : Value → Shared → Prop
/-- the callers' frames -/
def frs (l : List Env) : List Addr := l.filterMap (·.frame)
abbrev Cx.fs (X : Cx) : List Addr := frs X.outer

def Vis (sc : Scope) (x : Str) : Prop := sc.names.lookup x = some .local ∨ sc.names.lookup x = some .cell ∨ sc.names.lookup x = some .free
def Loc (sc : Scope) (x : Str) : Prop := sc.names.lookup x = some .local ∨ sc.names.lookup x = some .cell
def Look (env : Env) (h : Heap) (m : Str → Option Value) (x : Str) (u : Value) : Prop :=
  (env.kindOf x = some .local ∧ m x = some u) ∨ ((env.kindOf x = some .cell ∨ env.kindOf x = some .free) ∧ ∃ c, env.cells.lookup x = some c ∧ h.IsCell c (some u))

structure Cx.Ok (X : Cx) : Prop where
  mod : Mod X.K X.mg X.base
  kind : X.env.scope.kind = .function
  glob : X.env.globals = mainGlobals
  blt : X.env.builtins = builtinsNs
  above : X.s₀.heap.objs.size ≤ X.env.locals
  inj : ∀ x y c, X.env.cells.lookup x = some c → X.env.cells.lookup y = some c → x = y
  has : ∀ x, (X.env.kindOf x = some .cell ∨ X.env.kindOf x = some .free) → ∃ c, X.env.cells.lookup x = some c
  cab : ∀ x c, X.fn x = true → X.env.cells.lookup x = some c → X.s₀.heap.objs.size ≤ c
  hd : X.calm = true → X.A.handled = none
  frames : X.A.frames = some X.stack
  stk : X.stack = X.outer ∨ (X.stack = X.env :: X.outer ∧ X.env.frame = some X.env.locals)
  exf : ∀ b ∈ X.ex, b ≠ X.env.locals ∧ ∀ x c, X.env.cells.lookup x = some c → c ≠ b
  bs : ∀ b o, X.base.get? b = some o → X.s₀.heap.get? b = some o ∧ X.H₀ b = none
  bsz : X.base.objs.size ≤ X.s₀.heap.objs.size
  noex : ∀ b o, X.base.get? b = some o → b ∉ X.ex
  exfs : ∀ b ∈ X.ex, b ∉ X.fs
  funs : X.s₀.heap.FunFrames X.base X.outer
  frf : ∀ b ∈ X.fs, X.H₀ b = none

structure Inv (X : Cx) (pins : List (Addr × Obj)) (σ : List (Option V)) (H : Hp) (s : Shared) : Prop where
  ok : X.Ok
  os : s.os = X.s₀.os
  bare : AllBare s.gens
  base : Un X.fs X.ex X.H₀ H X.s₀.heap s.heap
  loc : ∃ m, s.heap.Ns X.env.locals m ∧ ∀ (i : Nat) (x : Str) (v : V), X.N[i]? = some x → σ[i]? = some (some v) → Vis X.env.scope x → ∃ u, RelV v u ∧ Look X.env s.heap m x u
  cell : ∀ x c, X.env.cells.lookup x = some c → ∃ v, s.heap.IsCell c v
  free : H X.env.locals = none
  freeC : ∀ x c, X.env.cells.lookup x = some c → H c = none
  pin : ∀ p ∈ X.pn ++ pins, s.heap.get? p.1 = some p.2 ∧ H p.1 = none ∧ p.1 ≠ X.env.locals ∧ p.1 ∉ X.fs ∧ ∀ v, p.2.data ≠ .cell v
  hok : HOk X.prog X.w H s.heap
  len : σ.length = X.N.length

section
variable {X : Cx} {pins : List (Addr × Obj)} {σ : List (Option V)} {H H' : Hp} {s : Shared} {h' : Heap}

theorem Cx.Ok.nofr (ok : X.Ok) {b : Addr} {o : Obj} (e : X.base.get? b = some o) : b ∉ X.fs := fun hb => by
  have := (ok.funs.mem hb).1
  rw [e] at this; cases this
theorem Inv.bs (I : Inv X pins σ H s) : ∀ b o, X.base.get? b = some o → s.heap.get? b = some o ∧ H b = none := fun b o e =>
  ⟨I.base.keep b o (I.ok.bs b o e).1 (I.ok.bs b o e).2 (I.ok.nofr e) (I.ok.noex b o e), I.base.free b o (I.ok.bs b o e).1 (I.ok.bs b o e).2 (I.ok.noex b o e)⟩
theorem Inv.bk (I : Inv X pins σ H s) : ∀ b o, X.base.get? b = some o → s.heap.get? b = some o := fun b o e => (I.bs b o e).1
theorem Inv.mod (I : Inv X pins σ H s) : Mod X.K X.mg X.base := I.ok.mod
theorem Inv.kIn (I : Inv X pins σ H s) : X.K.In s.heap := I.ok.mod.kin.keeps I.bk
theorem Inv.nolimit (I : Inv X pins σ H s) : s.heap.NoLimit := I.ok.mod.nolimit.keeps I.bk
/-- the frame over the base: for OpenK's rules (K.In X.base is I.mod.kin) -/
theorem Inv.fr (I : Inv X pins σ H s) : ∃ m, Fr X.base X.env.locals s.heap m :=
  let ⟨m, hn, _⟩ := I.loc
  ⟨m, hn, I.bk, Nat.le_trans I.ok.bsz I.ok.above⟩
theorem Inv.lt (I : Inv X pins σ H s) : X.env.locals < s.heap.objs.size := let ⟨_, hn, _⟩ := I.loc; hn.lt
theorem Inv.sz (I : Inv X pins σ H s) : X.s₀.heap.objs.size ≤ s.heap.objs.size := Nat.le_trans I.ok.above (Nat.le_of_lt I.lt)
theorem Inv.nofs (I : Inv X pins σ H s) {a : Addr} (h : s.heap.objs.size ≤ a) : a ∉ X.fs := fun hb => by
  obtain ⟨_, o, ho, _⟩ := I.ok.funs.mem hb
  exact absurd (Nat.lt_of_lt_of_le (Heap.lt_size ho) (Nat.le_trans I.sz h)) (Nat.lt_irrefl _)
theorem Inv.cne (I : Inv X pins σ H s) : ∀ x c, X.env.cells.lookup x = some c → c ≠ X.env.locals := fun x c e z => by
  obtain ⟨v, o, ho, hd⟩ := I.cell x c e
  obtain ⟨m, ⟨o', es, ep, ho', hd', _⟩, _⟩ := I.loc
  rw [z, ho'] at ho; cases ho; rw [hd'] at hd; cases hd
theorem Inv.funs (I : Inv X pins σ H s) : s.heap.FunFrames X.base X.outer := by
  have all : ∀ (l : List Env), (∀ b ∈ frs l, b ∈ X.fs) → X.s₀.heap.FunFrames X.base l → s.heap.FunFrames X.base l := by
    intro l
    induction l with
    | nil => intro _ _; trivial
    | cons env r ih =>
      intro hs hl
      obtain ⟨hk, ⟨L, o, hf, hn, ho, hd⟩, hr⟩ := hl
      have hL : L ∈ X.fs := hs L (by unfold frs; rw [List.filterMap_cons, hf]; exact List.mem_cons_self)
      obtain ⟨sl, e⟩ := I.base.slot L o ho (I.ok.frf L hL) hL fun z => I.ok.exfs L z hL
      exact ⟨hk, ⟨L, _, hf, hn, e, hd⟩, ih (fun b hb => hs b (by unfold frs; rw [List.filterMap_cons, hf]; exact List.mem_cons_of_mem _ hb)) hr⟩
  exact all X.outer (fun _ hb => hb) I.ok.funs

/-- the frames that run, for a call -/
theorem Inv.stack (I : Inv X pins σ H s) : s.heap.FunFrames X.base X.stack := by
  rcases I.ok.stk with e | ⟨e, hf⟩
  · rw [e]; exact I.funs
  · rw [e]
    obtain ⟨m, hn, _⟩ := I.loc
    refine .cons (by rw [I.ok.kind]; decide) hf hn ?_ I.funs
    exact Heap.get?_none_of_le (Nat.le_trans I.ok.bsz I.ok.above)
theorem Inv.stkSub (I : Inv X pins σ H s) : ∀ b ∈ frs X.stack, b ∈ X.env.locals :: X.fs := fun b hb => by
  rcases I.ok.stk with e | ⟨e, hf⟩
  · rw [e] at hb; exact List.mem_cons_of_mem _ hb
  · rw [e] at hb
    unfold frs at hb
    rw [List.filterMap_cons, hf] at hb
    exact hb
theorem Inv.stkFree (I : Inv X pins σ H s) : ∀ b ∈ frs X.stack, H b = none := fun b hb => by
  rcases List.mem_cons.mp (I.stkSub b hb) with e | hb
  · rw [e]; exact I.free
  · obtain ⟨_, o, ho, _⟩ := I.ok.funs.mem hb
    exact I.base.free b o ho (I.ok.frf b hb) fun z => I.ok.exfs b z hb

/-- THE STEP: the untracked objects but the frame and the records at ch are kept (the callers' frames up to slots), the frame's map is kept, the new abstract heap is held -/
theorem Inv.step {g' : Array GenState} {t' : Nat} {d' : Drawn} {ch : List Addr} (I : Inv X pins σ H s)
    (hch : ∀ b ∈ ch, (b ∈ X.ex ∨ X.s₀.heap.objs.size ≤ b) ∧ b ≠ X.env.locals ∧ (∀ x c, X.env.cells.lookup x = some c → c ≠ b) ∧ ∀ p ∈ X.pn ++ pins, p.1 ≠ b)
    (keep : ∀ b o, b ≠ X.env.locals → b ∉ X.fs → b ∉ ch → s.heap.get? b = some o → H b = none → h'.get? b = some o)
    (slot : ∀ b o, b ≠ X.env.locals → b ∈ X.fs → b ∉ ch → s.heap.get? b = some o → H b = none → ∃ sl, h'.get? b = some { o with slots := sl }) (free : ∀ b o, b ∉ ch → s.heap.get? b = some o → H b = none → H' b = none)
    (there : ∀ b o, b ∉ ch → s.heap.get? b = some o → ∃ o', h'.get? b = some o')
    (tups : ∀ b xs, H b = some (.tup xs) → H' b = some (.tup xs)) (frzs : ∀ b o u, H b = some (.frz o u) → H' b = some (.frz o u)) (tbls : ∀ b ps, H b = some (.tbl ps) → ∃ more, H' b = some (.tbl (ps ++ more)))
    (ns : ∀ m, s.heap.Ns X.env.locals m → h'.Ns X.env.locals m) (hok : HOk X.prog X.w H' h') (hg : AllBare g') :
    Inv X pins σ H' { s with heap := h', gens := g', drawn := d', toks := t' } := by
  have neL : ∀ b o, X.s₀.heap.get? b = some o → b ≠ X.env.locals := fun b o e => Nat.ne_of_lt (Nat.lt_of_lt_of_le (Heap.lt_size e) I.ok.above)
  have neC : ∀ b o, X.s₀.heap.get? b = some o → b ∉ X.ex → b ∉ ch := fun b o e hx hb => by
    rcases (hch b hb).1 with z | z
    · exact hx z
    · exact absurd (Nat.lt_of_lt_of_le (Heap.lt_size e) z) (Nat.lt_irrefl _)
  have cellK : ∀ x c, X.env.cells.lookup x = some c → ∀ v, s.heap.IsCell c v → h'.IsCell c v := fun x c e v ⟨o, ho, hd⟩ => by
    have nch : c ∉ ch := fun z => (hch c z).2.2.1 x c e rfl
    by_cases hc : c ∈ X.fs
    · obtain ⟨sl, q⟩ := slot c o (I.cne x c e) hc nch ho (I.freeC x c e)
      exact ⟨_, q, hd⟩
    · exact ⟨o, keep c o (I.cne x c e) hc nch ho (I.freeC x c e), hd⟩
  refine ⟨I.ok, I.os, hg, ⟨fun b o e n hb hx => ?_, fun b o e n hb hx => ?_, fun b o e n hx => ?_, fun b o e hx => ?_, fun b xs e => tups b xs (I.base.tups b xs e), fun b o xs e => frzs b o xs (I.base.frzs b o xs e), fun b ps e => ?_⟩, ?_, fun x c e => ?_, ?_, fun x c e => ?_, fun p hp => ?_, hok, I.len⟩
  · exact keep b o (neL b o e) hb (neC b o e hx) (I.base.keep b o e n hb hx) (I.base.free b o e n hx)
  · obtain ⟨sl, e1⟩ := I.base.slot b o e n hb hx
    obtain ⟨sl', e2⟩ := slot b _ (neL b o e) hb (neC b o e hx) e1 (I.base.free b o e n hx)
    exact ⟨sl', e2⟩
  · obtain ⟨o', e1⟩ := I.base.there b o e hx
    exact free b o' (neC b o e hx) e1 (I.base.free b o e n hx)
  · obtain ⟨o', e1⟩ := I.base.there b o e hx
    exact there b o' (neC b o e hx) e1
  · obtain ⟨m1, e1⟩ := I.base.tbls b ps e
    obtain ⟨m2, e2⟩ := tbls b _ e1
    exact ⟨m1 ++ m2, by rw [e2, Array.append_assoc]⟩
  · obtain ⟨m, hn, hl⟩ := I.loc
    refine ⟨m, ns m hn, fun i x v e1 e2 e3 => ?_⟩
    obtain ⟨u, r, l⟩ := hl i x v e1 e2 e3
    refine ⟨u, r, ?_⟩
    rcases l with l | ⟨k, c, e, z⟩
    · exact .inl l
    · exact .inr ⟨k, c, e, cellK x c e _ z⟩
  · obtain ⟨v, z⟩ := I.cell x c e
    exact ⟨v, cellK x c e v z⟩
  · obtain ⟨m, ⟨o, _, _, ho, _⟩, _⟩ := I.loc
    exact free _ o (fun z => (hch _ z).2.1 rfl) ho I.free
  · obtain ⟨v, o, ho, hd⟩ := I.cell x c e
    exact free c o (fun z => (hch c z).2.2.1 x c e rfl) ho (I.freeC x c e)
  · obtain ⟨e, n, ne, nf, d⟩ := I.pin p hp
    have nch : p.1 ∉ ch := fun z => (hch p.1 z).2.2.2 p hp rfl
    exact ⟨keep p.1 p.2 ne nf nch e n, free p.1 p.2 nch e n, ne, nf, d⟩
/-- .. where the frame's own object is kept too -/
theorem Inv.un {t' : Nat} (I : Inv X pins σ H s) (u : Un X.fs [] H H' s.heap h') (hok : HOk X.prog X.w H' h') : Inv X pins σ H' { s with heap := h', toks := t' } := by
  obtain ⟨m, ⟨o, es, ep, ho, r⟩, _⟩ := id I.loc
  obtain ⟨sl, hL⟩ := u.any ho I.free (by simp)
  exact I.step (g' := s.gens) (d' := s.drawn) (ch := []) (fun _ z => nomatch z) (fun b o _ hb _ e n => u.keep b o e n hb (by simp)) (fun b o _ hb _ e n => u.slot b o e n hb (by simp)) (fun b o _ e n => u.free b o e n (by simp)) (fun b o _ e => u.there b o e (by simp)) u.tups u.frzs u.tbls (fun m' hm => by
    obtain ⟨o', es', ep', ho', r'⟩ := hm
    rw [ho] at ho'; cases ho'
    exact ⟨_, es', ep', hL, r'⟩) hok I.bare
/-- behind a call (or a comprehension's block): the slots of this frame may have changed too, the records at ch may have turned -/
theorem Inv.call {g' : Array GenState} {t' : Nat} {d' : Drawn} {ch : List Addr} (I : Inv X pins σ H s) (u : Un (frs X.stack) ch H H' s.heap h') (hok : HOk X.prog X.w H' h') (hg : AllBare g')
    (hch : ∀ b ∈ ch, (b ∈ X.ex ∨ X.s₀.heap.objs.size ≤ b) ∧ b ≠ X.env.locals ∧ (∀ x c, X.env.cells.lookup x = some c → c ≠ b) ∧ ∀ p ∈ X.pn ++ pins, p.1 ≠ b) :
    Inv X pins σ H' { s with heap := h', gens := g', drawn := d', toks := t' } := by
  obtain ⟨m, ⟨o, es, ep, ho, r⟩, _⟩ := id I.loc
  obtain ⟨sl, hL⟩ := u.any ho I.free fun z => (hch _ z).2.1 rfl
  exact I.step (ch := ch) hch (fun b o hL hb hc e n => u.keep b o e n (fun z => (List.mem_cons.mp (I.stkSub b z)).elim hL hb) hc) (fun b o _ _ hc e n => u.any e n hc) (fun b o hc e n => u.free b o e n hc) (fun b o hc e => u.there b o e hc) u.tups u.frzs u.tbls (fun m' hm => by
    obtain ⟨o', es', ep', ho', r'⟩ := hm
    rw [ho] at ho'; cases ho'
    exact ⟨_, es', ep', hL, r'⟩) hok hg
/-- an untracked record of ours (an iterator) has turned -/
theorem Inv.turned {t' : Nat} {it : Addr} (I : Inv X pins σ H s) (k : ∀ b o, b ≠ it → s.heap.get? b = some o → h'.get? b = some o) (hn : H it = none) (hL : it ≠ X.env.locals)
    (h1 : it ∈ X.ex ∨ X.s₀.heap.objs.size ≤ it) (h2 : ∀ x c, X.env.cells.lookup x = some c → c ≠ it) (h3 : ∀ p ∈ X.pn ++ pins, p.1 ≠ it) : Inv X pins σ H { s with heap := h', toks := t' } := by
  have nit : ∀ b u, H b = some u → b ≠ it := fun b u e z => by rw [z, hn] at e; cases e
  refine I.step (g' := s.gens) (d' := s.drawn) (ch := [it]) (fun b hb => ?_) (fun b o _ _ hc e _ => k b o (fun z => hc (by simp [z])) e) (fun b o _ _ hc e _ => ⟨o.slots, k b o (fun z => hc (by simp [z])) e⟩) (fun _ _ _ _ n => n)
    (fun b o hc e => ⟨o, k b o (fun z => hc (by simp [z])) e⟩) (fun _ _ e => e) (fun _ _ _ e => e) (fun b ps e => ⟨#[], by rw [e]; simp⟩) (fun m hm => ?_) (fun b u e => ?_) I.bare
  · have e : b = it := by simpa using hb
    subst e
    exact ⟨h1, hL, h2, h3⟩
  · obtain ⟨o, es, ep, ho, r⟩ := hm
    exact ⟨o, es, ep, k _ o (Ne.symm hL) ho, r⟩
  · refine (I.hok b u e).stay (fun c v hc q => k c v ?_ q) (fun _ q => q) fun _ _ q => q
    rcases hc with z | z
    · rw [z]; exact nit b u e
    · exact nit c _ z
theorem Inv.tok (I : Inv X pins σ H s) (t : Nat) : Inv X pins σ H { s with toks := t } := I.un (h' := s.heap) (t' := t) Un.refl I.hok
/-- all objects kept -/
theorem Inv.kept {t' : Nat} (I : Inv X pins σ H s) (k : ∀ b u, s.heap.get? b = some u → h'.get? b = some u) : Inv X pins σ H { s with heap := h', toks := t' } := I.un (Un.kept k) (I.hok.kept k)
/-- a new object laid and tracked -/
theorem Inv.laid {a : Addr} {o : HO} {t' : Nat} (I : Inv X pins σ H s) (k : ∀ b u, s.heap.get? b = some u → h'.get? b = some u) (hp : s.heap.objs.size ≤ a) (new : ObjOk X.prog X.w (upd H a o) h' a o) :
    Inv X pins σ (upd H a o) { s with heap := h', toks := t' } := I.un (Un.laid k hp (I.hok.fresh hp)) (I.hok.laid k hp new)
/-- an object written -/
theorem Inv.write {x e : Addr} {o : HO} {t' : Nat} (I : Inv X pins σ H s) (mu : Mut (H x)) (he : e = x ∨ H e = some (.own x)) (k : ∀ b u, b ≠ e → s.heap.get? b = some u → h'.get? b = some u) (heo : ∃ u, h'.get? e = some u)
    (new : ObjOk X.prog X.w (upd H x o) h' x o) : Inv X pins σ (upd H x o) { s with heap := h', toks := t' } := I.un (Un.write mu he k heo) (I.hok.write mu he k heo new)
/-- forgetting slots, pins -/
theorem Inv.weak {σ' : List (Option V)} (I : Inv X pins σ H s) (hl : σ'.length = σ.length) (w : ∀ (i : Nat) v, σ'[i]? = some (some v) → σ[i]? = some (some v)) : Inv X pins σ' H s :=
  ⟨I.ok, I.os, I.bare, I.base, let ⟨m, hn, hl'⟩ := I.loc; ⟨m, hn, fun i x v e1 e2 e3 => hl' i x v e1 (w i v e2) e3⟩, I.cell, I.free, I.freeC, I.pin, I.hok, hl.trans I.len⟩
theorem Inv.pins_of {pins' : List (Addr × Obj)} (I : Inv X pins σ H s) (h : ∀ p ∈ pins', s.heap.get? p.1 = some p.2 ∧ H p.1 = none ∧ p.1 ≠ X.env.locals ∧ p.1 ∉ X.fs ∧ ∀ v, p.2.data ≠ .cell v) : Inv X pins' σ H s :=
  ⟨I.ok, I.os, I.bare, I.base, I.loc, I.cell, I.free, I.freeC, fun p hp => (List.mem_append.mp hp).elim (fun z => I.pin p (List.mem_append_left _ z)) (h p), I.hok, I.len⟩

theorem nodup_ix {N : List Str} (hN : N.Nodup) {i j : Nat} {x : Str} (a : N[i]? = some x) (b : N[j]? = some x) : i = j := by
  obtain ⟨h1, e1⟩ := List.getElem?_eq_some_iff.mp a
  obtain ⟨h2, e2⟩ := List.getElem?_eq_some_iff.mp b
  exact (List.getElem_inj hN).mp (e1.trans e2.symm)

/-- a name is stored; what changed -/
theorem store_ok2 {M : Model} {A : Around} {E : Value → Shared → Prop} {i : Nat} {x : Str} {v : V} {u : Value} {Q : Unit → Shared → Prop} (I : Inv X pins σ H s) (hN : X.N.Nodup) (hi : X.N[i]? = some x) (hx : Loc X.env.scope x) (r : RelV v u)
    (h : ∀ s', Inv X pins (σ.set i (some v)) H s' → (∃ a, Heap.SameBut a s.heap s'.heap ∧ (a = X.env.locals ∨ X.env.cells.lookup x = some a)) → Q () s') (hf : X.fn x = true ∨ X.env.scope.names.lookup x = some .local := by first | exact .inl rfl | exact .inr rfl | assumption) : wpAny M A (storeName X.env x u) Q E s := by
  obtain ⟨m, hn, hl⟩ := id I.loc
  have hcls : (X.env.scope.kind == .class || (X.env.scope.kind == .module && X.env.locals != X.env.globals)) = false := by rw [I.ok.kind]; rfl
  have hiσ : i < σ.length := by rw [I.len]; exact (List.getElem?_eq_some_iff.mp hi).1
  have cne := I.cne
  have tracked : ∀ {a : Addr} {h' : Heap}, (∃ o, s.heap.get? a = some o ∧ H a = none) → Heap.SameBut a s.heap h' → HOk X.prog X.w H h' := fun {a h'} ha hs b ob e => by
    obtain ⟨_, _, hfree⟩ := ha
    refine (I.hok b ob e).stay (fun c w' hc q => (hs.2 c ?_).trans q) (fun _ q => q) fun _ _ q => q
    rintro rfl
    rcases hc with rfl | hc
    · rw [hfree] at e; cases e
    · rw [hfree] at hc; cases hc
  rcases hx with hk | hk
  · refine wpAny_storeName_local hk hn (fun h' hn' hs => ?_) hcls
    obtain ⟨oL, _, _, hoL, _⟩ := id hn
    refine h _ ⟨I.ok, I.os, I.bare, ⟨fun b o e n hb hx => ?_, fun b o e n hb hx => ?_, I.base.free, fun b o e hx => ?_, I.base.tups, I.base.frzs, I.base.tbls⟩, ⟨_, hn', fun j y v' e1 e2 e3 => ?_⟩, fun y c e => ?_, I.free, I.freeC, fun p hp => ?_, tracked ⟨oL, hoL, I.free⟩ hs, by simpa using I.len⟩ ⟨_, hs, .inl rfl⟩
    · exact (hs.2 b (Nat.ne_of_lt (Nat.lt_of_lt_of_le (Heap.lt_size e) I.ok.above))).trans (I.base.keep b o e n hb hx)
    · obtain ⟨sl, e1⟩ := I.base.slot b o e n hb hx
      exact ⟨sl, (hs.2 b (Nat.ne_of_lt (Nat.lt_of_lt_of_le (Heap.lt_size e) I.ok.above))).trans e1⟩
    · obtain ⟨o', e1⟩ := I.base.there b o e hx
      exact ⟨o', (hs.2 b (Nat.ne_of_lt (Nat.lt_of_lt_of_le (Heap.lt_size e) I.ok.above))).trans e1⟩
    · by_cases hj : j = i
      · subst hj
        rw [hi] at e1; cases e1
        rw [List.getElem?_set_self hiσ] at e2
        cases e2
        exact ⟨u, r, .inl ⟨hk, by simp⟩⟩
      · rw [List.getElem?_set_ne (Ne.symm hj)] at e2
        obtain ⟨u', r', q⟩ := hl j y v' e1 e2 e3
        refine ⟨u', r', ?_⟩
        rcases q with ⟨k, e⟩ | ⟨k, c, e, z⟩
        · refine .inl ⟨k, ?_⟩
          have : y ≠ x := fun e => hj (nodup_ix hN e1 (e ▸ hi))
          simp [this, e]
        · exact .inr ⟨k, c, e, z.sameBut hs (cne y c e)⟩
    · obtain ⟨w', z⟩ := I.cell y c e
      exact ⟨w', z.sameBut hs (cne y c e)⟩
    · obtain ⟨e, n, ne, nf, d⟩ := I.pin p hp
      exact ⟨(hs.2 p.1 ne).trans e, n, ne, nf, d⟩
  · have hfn : X.fn x = true := by
      rcases hf with z | z
      · exact z
      · rw [z] at hk; cases hk
    obtain ⟨c, hc⟩ := I.ok.has x (.inl hk)
    obtain ⟨w', z⟩ := I.cell x c hc
    refine wpAny_storeName_cell I.ok.kind hk hc z (fun h' hc' hs => ?_)
    obtain ⟨oc, hoc, hocd⟩ := id z
    refine h { s with heap := h' } ⟨I.ok, I.os, I.bare, ⟨fun b o e n hb hx => ?_, fun b o e n hb hx => ?_, I.base.free, fun b o e hx => ?_, I.base.tups, I.base.frzs, I.base.tbls⟩, ⟨m, hn.sameBut hs (Ne.symm (cne x c hc)), fun j y v' e1 e2 e3 => ?_⟩, fun y c' e => ?_, I.free, I.freeC, fun p hp => ?_, tracked ⟨oc, hoc, I.freeC x c hc⟩ hs, by simpa using I.len⟩ ⟨c, hs, .inr hc⟩
    · exact (hs.2 b (Nat.ne_of_lt (Nat.lt_of_lt_of_le (Heap.lt_size e) (I.ok.cab x c hfn hc)))).trans (I.base.keep b o e n hb hx)
    · obtain ⟨sl, e1⟩ := I.base.slot b o e n hb hx
      exact ⟨sl, (hs.2 b (Nat.ne_of_lt (Nat.lt_of_lt_of_le (Heap.lt_size e) (I.ok.cab x c hfn hc)))).trans e1⟩
    · obtain ⟨o', e1⟩ := I.base.there b o e hx
      exact ⟨o', (hs.2 b (Nat.ne_of_lt (Nat.lt_of_lt_of_le (Heap.lt_size e) (I.ok.cab x c hfn hc)))).trans e1⟩
    · by_cases hj : j = i
      · subst hj
        rw [hi] at e1; cases e1
        rw [List.getElem?_set_self hiσ] at e2
        cases e2
        exact ⟨u, r, .inr ⟨.inl hk, c, hc, hc'⟩⟩
      · rw [List.getElem?_set_ne (Ne.symm hj)] at e2
        obtain ⟨u', r', q⟩ := hl j y v' e1 e2 e3
        refine ⟨u', r', ?_⟩
        rcases q with q | ⟨k, c', e, z'⟩
        · exact .inl q
        · refine .inr ⟨k, c', e, z'.sameBut hs ?_⟩
          rintro rfl
          exact hj (nodup_ix hN e1 (I.ok.inj _ _ _ e hc ▸ hi))
    · by_cases hcc : c' = c
      · subst hcc; exact ⟨_, hc'⟩
      · obtain ⟨w2, z2⟩ := I.cell y c' e
        exact ⟨w2, z2.sameBut hs hcc⟩
    · obtain ⟨e, n, ne, nf, d⟩ := I.pin p hp
      refine ⟨(hs.2 p.1 ?_).trans e, n, ne, nf, d⟩
      intro q
      rw [q, hoc] at e
      have q' : oc = p.2 := Option.some.inj e
      exact d w' (by rw [← q']; exact hocd)
theorem store_ok {M : Model} {A : Around} {E : Value → Shared → Prop} {i : Nat} {x : Str} {v : V} {u : Value} {Q : Unit → Shared → Prop} (I : Inv X pins σ H s) (hN : X.N.Nodup) (hi : X.N[i]? = some x) (hx : Loc X.env.scope x) (r : RelV v u)
    (h : ∀ s', Inv X pins (σ.set i (some v)) H s' → Q () s') (hf : X.fn x = true ∨ X.env.scope.names.lookup x = some .local := by first | exact .inl rfl | exact .inr rfl | assumption) : wpAny M A (storeName X.env x u) Q E s :=
  store_ok2 I hN hi hx r (fun s' I' _ => h s' I') hf
/-- behind a call or a block, the state as it is -/
theorem Inv.call' {s' : Shared} {ch : List Addr} (I : Inv X pins σ H s) (ho : s'.os = s.os) (u : Un (frs X.stack) ch H H' s.heap s'.heap) (hok : HOk X.prog X.w H' s'.heap) (hg : AllBare s'.gens)
    (hch : ∀ b ∈ ch, (b ∈ X.ex ∨ X.s₀.heap.objs.size ≤ b) ∧ b ≠ X.env.locals ∧ (∀ x c, X.env.cells.lookup x = some c → c ≠ b) ∧ ∀ p ∈ X.pn ++ pins, p.1 ≠ b) : Inv X pins σ H' s' := by
  obtain ⟨h', g', d', t', o'⟩ := s'
  have e : o' = s.os := ho
  subst e
  exact I.call (g' := g') (t' := t') (d' := d') u hok hg hch
end

/-! ### the judgements -/
/-- an exception: its class, its own dict's address (where it has one), the abstract heap behind it -/
abbrev XK := Value → Option Addr → Hp → Prop
abbrev St := List (Option V)
abbrev VK := V → Hp → Prop
/-- an expression's reading; a test's; an argument list's -/
abbrev TE := St → Hp → VK → Prop
abbrev TT := St → Hp → (Bool → Hp → Prop) → Prop
abbrev TA := St → Hp → (List V → Hp → Prop) → Prop
/-- what is wanted behind a statement -/
structure Ends where
  nx : St → Hp → Prop
  rt : VK
  bk : St → Hp → Prop := fun _ _ => False
  ct : St → Hp → Prop := fun _ _ => False
abbrev TS := Ends → St → Hp → Prop

def EP (X : Cx) (pins : List (Addr × Obj)) (σ : St) (Q : VK) (u : Value) (s' : Shared) : Prop := ∃ v H', Inv X pins σ H' s' ∧ RelV v u ∧ Q v H'
def TP (X : Cx) (pins : List (Addr × Obj)) (σ : St) (Q : Bool → Hp → Prop) (b : Bool) (s' : Shared) : Prop := ∃ H', Inv X pins σ H' s' ∧ Q b H'
def AP (X : Cx) (pins : List (Addr × Obj)) (σ : St) (Q : List V → Hp → Prop) (us : List Value) (s' : Shared) : Prop := ∃ vs H', Inv X pins σ H' s' ∧ Vals vs us ∧ Q vs H'
def SP (X : Cx) (pins : List (Addr × Obj)) (D : Ends) (f : Flow) (s' : Shared) : Prop :=
  match f with
  | .next => ∃ σ' H', Inv X pins σ' H' s' ∧ D.nx σ' H'
  | .brk => ∃ σ' H', Inv X pins σ' H' s' ∧ D.bk σ' H'
  | .cont => ∃ σ' H', Inv X pins σ' H' s' ∧ D.ct σ' H'
  | .ret u => ∃ v σ' H', Inv X pins σ' H' s' ∧ RelV v u ∧ D.rt v H'

def PE (X : Cx) (e : Expr) (t : TE) : Prop :=
  ∀ (pins : List (Addr × Obj)) (s : Shared) (σ : St) (H : Hp) (Q : VK), Inv X pins σ H s → t σ H Q → wpAny (model X.prog X.w) X.A (eval e X.env) (EP X pins σ Q) X.xe s
def PT (X : Cx) (e : Expr) (t : TT) : Prop :=
  ∀ (pins : List (Addr × Obj)) (s : Shared) (σ : St) (H : Hp) (Q : Bool → Hp → Prop), Inv X pins σ H s → t σ H Q → wpAny (model X.prog X.w) X.A (isTrue e X.env (eval e X.env)) (TP X pins σ Q) X.xe s
/-- a test whatever its 'whole' is (and, or) -/
def PW (X : Cx) (e : Expr) (t : TT) : Prop :=
  ∀ (whole : Sem Value) (pins : List (Addr × Obj)) (s : Shared) (σ : St) (H : Hp) (Q : Bool → Hp → Prop), Inv X pins σ H s → t σ H Q → wpAny (model X.prog X.w) X.A (isTrue e X.env whole) (TP X pins σ Q) X.xe s
theorem PW.pt {X : Cx} {e : Expr} {t : TT} (h : PW X e t) : PT X e t := h _
/-- an argument list (no star), from the left -/
def PA (X : Cx) (es : List Expr) (t : TA) : Prop :=
  ∀ (pos : Pos) (pins : List (Addr × Obj)) (s : Shared) (σ : St) (H : Hp) (Q : List V → Hp → Prop), Inv X pins σ H s → t σ H Q → wpAny (model X.prog X.w) X.A (spliced (backTo pos (starEach es X.env))) (AP X pins σ Q) X.xe s
def PS (X : Cx) (st : Stmt) (t : TS) : Prop :=
  ∀ (pins : List (Addr × Obj)) (s : Shared) (σ : St) (H : Hp) (D : Ends), Inv X pins σ H s → t D σ H → wpAny (model X.prog X.w) X.A (exec st X.env) (SP X pins D) X.xe s
def PSs (X : Cx) (st : List Stmt) (t : TS) : Prop :=
  ∀ (pins : List (Addr × Obj)) (s : Shared) (σ : St) (H : Hp) (D : Ends), Inv X pins σ H s → t D σ H → wpAny (model X.prog X.w) X.A (execs st X.env) (SP X pins D) X.xe s
/-- weaken the end -/
theorem thn {α : Type} {t : Sem α} {Q Q' : α → Shared → Prop} {M : Model} {A : Around} {E : Value → Shared → Prop} {s : Shared} (h : wpAny M A t Q E s) (hQ : ∀ a s, Q a s → Q' a s) : wpAny M A t Q' E s := wpAny_mono h hQ fun _ _ x => x
end L2

namespace L2
open PySem PySem.Spec PyProof.Rows
section
variable {X : Cx}

/-- two expressions in a row -/
theorem bin {a b : Expr} {ta tb : TE} (ha : PE X a ta) (hb : PE X b tb) {pins : List (Addr × Obj)} {s : Shared} {σ : St} {H : Hp} {R : V → V → Hp → Prop} (I : Inv X pins σ H s) (h : ta σ H fun x H1 => tb σ H1 fun y H2 => R x y H2)
    {α : Type} {Q : α → Shared → Prop} {f : Value → Value → Sem α}
    (hf : ∀ v u s2 x y H2, Inv X pins σ H2 s2 → RelV x v → RelV y u → R x y H2 → wpAny (model X.prog X.w) X.A (f v u) Q X.xe s2) :
    wpAny (model X.prog X.w) X.A (eval a X.env) (fun v s₁ => wpAny (model X.prog X.w) X.A (eval b X.env) (fun u s₂ => wpAny (model X.prog X.w) X.A (f v u) Q X.xe s₂) X.xe s₁) X.xe s := by
  refine thn (ha pins s σ H _ I h) fun v s1 ⟨x, H1, I1, r1, q1⟩ => ?_
  refine thn (hb pins s1 σ H1 _ I1 q1) fun u s2 ⟨y, H2, I2, r2, q2⟩ => ?_
  exact hf v u s2 x y H2 I2 r1 r2 q2

/-! ### names and constants -/
def tVar (i : Nat) : TE := fun σ H Q => ∃ v, σ[i]? = some (some v) ∧ Q v H
def tC (v : V) : TE := fun _ H Q => Q v H
theorem pe_var {i : Nat} {x : Str} {pos : Pos} (hN : X.N[i]? = some x) (hv : Vis X.env.scope x) (hd : (x == ("__debug__" : Str)) = false := by decide) (hcd : (x == ("__classdict__" : Str)) = false := by decide) : PE X (.Name x pos) (tVar i) := by
  intro pins s σ H Q I h
  obtain ⟨v, e, h⟩ := h
  obtain ⟨m, hn, hl⟩ := I.loc
  obtain ⟨u, r, l⟩ := hl i x v hN e hv
  have fin : EP X pins σ Q u s := ⟨v, H, I, r, h⟩
  rcases l with ⟨hk, hm⟩ | ⟨hk, c, hc, hcell⟩
  · exact wpAny_Name (wpAny_loadName_local I.ok.kind hk hn hm fin) hd
  · rcases hk with hk | hk
    · exact wpAny_Name (wpAny_loadName_cell I.ok.kind hk hc hcell fin) hd
    · exact wpAny_Name (wpAny_loadName_free I.ok.kind hk hc hcell fin hcd) hd
theorem pe_int {i j pos} : PE X (.Constant (.int i) j pos) (tC (.int i)) := fun _ _ _ H _ I h => wpAny_Constant_int ⟨.int i, H, I.tok _, ⟨_, rfl⟩, h⟩
theorem pe_bl {b j pos} : PE X (.Constant (.bool b) j pos) (tC (.bl b)) := fun _ _ _ H _ I h => Constant_bool ⟨.bl b, H, I, rfl, h⟩
theorem pe_non {j pos} : PE X (.Constant .none j pos) (tC .non) := fun _ _ _ H _ I h => Constant_none ⟨.non, H, I, rfl, h⟩
theorem pe_str {x j pos} : PE X (.Constant (.str x) j pos) (tC (.str x)) := fun _ _ _ H _ I h => Calls.Constant_str ⟨.str x, H, I.tok _, ⟨_, rfl⟩, h⟩

/-- a global name of the def -/
def Gl (X : Cx) (x : Str) : Prop := X.env.kindOf x = some .globalImplicit
theorem ld_glob {E : Value → Shared → Prop} {pins : List (Addr × Obj)} {s : Shared} {σ : St} {H : Hp} {x : Str} {u : Value} {pos : Pos} {Q : Value → Shared → Prop} (I : Inv X pins σ H s) (hg : Gl X x) (hm : X.mg x = some u) (h : Q u s)
    (hd : (x == ("__debug__" : Str)) = false := by decide) : wpAny (model X.prog X.w) X.A (eval (.Name x pos) X.env) Q E s :=
  Calls.Name_function_global I.ok.kind hg (Calls.loadGlobal_global (by rw [I.ok.glob]; exact I.mod.glob.keeps I.bk) hm h) hd
theorem ld_blt {E : Value → Shared → Prop} {pins : List (Addr × Obj)} {s : Shared} {σ : St} {H : Hp} {x : Str} {u : Value} {pos : Pos} {Q : Value → Shared → Prop} (I : Inv X pins σ H s) (hg : Gl X x) (hm : X.mg x = none) (hv : bootBuiltins x = some u) (h : Q u s)
    (hn : x ≠ "__name__" := by decide) (hd : (x == ("__debug__" : Str)) = false := by decide) : wpAny (model X.prog X.w) X.A (eval (.Name x pos) X.env) Q E s := by
  obtain ⟨mb, h1, h2⟩ := I.mod.blt
  exact Calls.Name_function_global I.ok.kind hg (Calls.loadGlobal_builtin (by rw [I.ok.glob]; exact I.mod.glob.keeps I.bk) hm (by rw [I.ok.blt]; exact h1.keeps I.bk) ((h2 x hn).trans hv) h) hd
/-- a module's constant, a class, a function, as a value -/
theorem pe_glob {x : Str} {v : V} {u : Value} {pos : Pos} (hg : Gl X x) (hm : X.mg x = some u) (r : RelV v u) (hd : (x == ("__debug__" : Str)) = false := by decide) : PE X (.Name x pos) (tC v) :=
  fun _ _ _ H _ I h => ld_glob I hg hm ⟨v, H, I, r, h⟩ hd
theorem pe_bltn {x : Str} {v : V} {u : Value} {pos : Pos} (hg : Gl X x) (hm : X.mg x = none) (hv : bootBuiltins x = some u) (r : RelV v u) (hn : x ≠ "__name__" := by decide) (hd : (x == ("__debug__" : Str)) = false := by decide) : PE X (.Name x pos) (tC v) :=
  fun _ _ _ H _ I h => ld_blt I hg hm hv ⟨v, H, I, r, h⟩ hn hd

/-! ### arithmetic -/
/-- two ints -/
def t2I (ta tb : TE) (k : Int → Int → Hp → Prop) : St → Hp → Prop := fun σ H => ta σ H fun x H1 => tb σ H1 fun y H2 => ∃ i j, x = .int i ∧ y = .int j ∧ k i j H2
def tAdd (ta tb : TE) : TE := fun σ H Q => t2I ta tb (fun i j H2 => Q (.int (i + j)) H2) σ H
def tSub (ta tb : TE) : TE := fun σ H Q => t2I ta tb (fun i j H2 => Q (.int (i - j)) H2) σ H
/-- the left factor below 2^64 -/
def tMul (ta tb : TE) : TE := fun σ H Q => t2I ta tb (fun i j H2 => (-(2 ^ 64) < i ∧ i < 2 ^ 64) ∧ Q (.int (i * j)) H2) σ H
variable {a b : Expr} {ta tb : TE} {pos : Pos}
/-! ### comparisons -/
def PC (X : Cx) (op : CmpOp) (a b : Expr) (t : TE) : Prop :=
  ∀ (pins : List (Addr × Obj)) (s : Shared) (σ : St) (H : Hp) (Q : VK), Inv X pins σ H s → t σ H Q →
    wpAny (model X.prog X.w) X.A (eval a X.env) (fun v s₁ => wpAny (model X.prog X.w) X.A (eval b X.env) (fun u s₂ => wpAny (model X.prog X.w) X.A (compareOp op v u) (EP X pins σ Q) X.xe s₂) X.xe s₁) X.xe s
def tCmp (p : Int → Int → Bool) (ta tb : TE) : TE := fun σ H Q => t2I ta tb (fun i j H2 => Q (.bl (p i j)) H2) σ H
abbrev tLt : TE → TE → TE := tCmp fun i j => decide (i < j)
abbrev tLe : TE → TE → TE := tCmp fun i j => decide (i ≤ j)
abbrev tGt : TE → TE → TE := tCmp fun i j => decide (j < i)
abbrev tGe : TE → TE → TE := tCmp fun i j => decide (j ≤ i)
abbrev tEqI : TE → TE → TE := tCmp fun i j => decide (i = j)
abbrev tNeI : TE → TE → TE := tCmp fun i j => !decide (i = j)
/-- is None -/
def tIsN (ta : TE) : TE := fun σ H Q => ta σ H fun x H1 => Q (.bl (decide (x = .non))) H1
def tNotN (ta : TE) : TE := fun σ H Q => ta σ H fun x H1 => Q (.bl (!decide (x = .non))) H1
/-- a comparison as a value, as a test -/
def tB (t : TE) : TT := fun σ H Q => t σ H fun x H1 => ∃ c, x = .bl c ∧ Q c H1
theorem pt_cmp {op : CmpOp} {t : TE} (h : PC X op a b t) (h1 : behindInMarks op b = false := by first | exact nobehind _ (by decide) (by decide) | rfl) : PT X (.Compare a [op] [b] pos) (tB t) := by
  intro pins s σ H Q I hw
  refine wpAny_isTrue_Compare1 (thn (h pins s σ H _ I hw) fun v s1 h1 => thn h1 fun u s2 h2 => thn h2 fun c s3 ⟨x, H1, I1, r1, q1⟩ => ?_) h1
  obtain ⟨d, rfl, q⟩ := q1
  cases r1
  exact wpAny_truthy_bool ⟨H1, I1, q⟩
/-- an expression whose value is a bool, as a test -/
theorem pt_val {e : Expr} {t : TE} (h : PE X e t) (he : ∀ whole, isTrue e X.env whole = (do let v ← whole; standAt e.pos; holding [v] (truthy v)) := by intro _; rfl) : PT X e (tB t) := by
  intro pins s σ H Q I hw
  refine isTrue_plain (thn (h pins s σ H _ I hw) fun v s1 ⟨x, H1, I1, r1, q1⟩ => ?_) (he _)
  obtain ⟨d, rfl, q⟩ := q1
  cases r1
  exact wpAny_truthy_bool ⟨H1, I1, q⟩

/-! ### and, or, not -/
variable {tA tB' : TT} {rest : List Expr}
def tAnd (t u : TT) : TT := fun σ H Q => t σ H fun c H1 => if c = true then u σ H1 Q else Q false H1
def tOr (t u : TT) : TT := fun σ H Q => t σ H fun c H1 => if c = true then Q true H1 else u σ H1 Q
def tNot (t : TT) : TT := fun σ H Q => t σ H fun c H1 => Q (!c) H1
theorem pw_and1 (ha : PT X a tA) : PW X (.BoolOp .And [a] pos) tA := by
  intro wh pins s σ H Q I h
  refine isTrue_and (thn (ha pins s σ H Q I h) fun c s1 e => ?_)
  cases c with
  | true => exact isTrue_and_nil e
  | false => exact e
theorem pw_or1 (ha : PT X a tA) : PW X (.BoolOp .Or [a] pos) tA := by
  intro wh pins s σ H Q I h
  refine isTrue_or (thn (ha pins s σ H Q I h) fun c s1 e => ?_)
  cases c with
  | false => exact isTrue_or_nil e
  | true => exact e
theorem pw_and (ha : PT X a tA) (hb : PW X (.BoolOp .And (b :: rest) pos) tB') : PW X (.BoolOp .And (a :: b :: rest) pos) (tAnd tA tB') := by
  intro wh pins s σ H Q I h
  refine isTrue_and (thn (ha pins s σ H _ I h) fun c s1 ⟨H1, I1, q1⟩ => ?_)
  cases c with
  | true => exact hb wh pins s1 σ H1 Q I1 q1
  | false => exact ⟨H1, I1, q1⟩
theorem pw_or (ha : PT X a tA) (hb : PW X (.BoolOp .Or (b :: rest) pos) tB') : PW X (.BoolOp .Or (a :: b :: rest) pos) (tOr tA tB') := by
  intro wh pins s σ H Q I h
  refine isTrue_or (thn (ha pins s σ H _ I h) fun c s1 ⟨H1, I1, q1⟩ => ?_)
  cases c with
  | true => exact ⟨H1, I1, q1⟩
  | false => exact hb wh pins s1 σ H1 Q I1 q1
theorem pt_not (ha : PT X a tA) : PT X (.UnaryOp .Not a pos) (tNot tA) := by
  intro pins s σ H Q I h
  exact isTrue_not (ha pins s σ H (fun c H1 => Q (!c) H1) I h)
/-- .. as values (bools) -/
def tAndV (ta tb : TE) : TE := fun σ H Q => ta σ H fun x H1 => ∃ c, x = .bl c ∧ if c = true then tb σ H1 Q else Q (.bl false) H1
def tOrV (ta tb : TE) : TE := fun σ H Q => ta σ H fun x H1 => ∃ c, x = .bl c ∧ if c = true then Q (.bl true) H1 else tb σ H1 Q
def tNotV (ta : TE) : TE := fun σ H Q => ta σ H fun x H1 => ∃ c, x = .bl c ∧ Q (.bl (!c)) H1
theorem pe_one {op} {t : TE} (h : PE X a t) : PE X (.BoolOp op [a] pos) t := fun pins s σ H Q I hw => BoolOp_one (h pins s σ H Q I hw)
theorem pe_and (ha : PE X a ta) (hb : PE X (.BoolOp .And (b :: rest) pos) tb) : PE X (.BoolOp .And (a :: b :: rest) pos) (tAndV ta tb) := by
  intro pins s σ H Q I h
  refine BoolOp_and (thn (ha pins s σ H _ I h) fun v s1 ⟨x, H1, I1, r1, q1⟩ => ?_)
  obtain ⟨c, rfl, q1⟩ := q1
  cases r1
  refine wpAny_truthy_bool ?_
  cases c with
  | true => exact hb pins s1 σ H1 Q I1 q1
  | false => exact ⟨.bl false, H1, I1, rfl, q1⟩
theorem pe_not (ha : PE X a ta) : PE X (.UnaryOp .Not a pos) (tNotV ta) := by
  intro pins s σ H Q I h
  refine UnaryOp_ (thn (ha pins s σ H _ I h) fun v s1 ⟨x, H1, I1, r1, q1⟩ => ?_)
  obtain ⟨c, rfl, q1⟩ := q1
  cases r1
  exact not_of (wpAny_truthy_bool ⟨.bl (!c), H1, I1, rfl, q1⟩)
/-- a if t else b -/
def tIf (t : TT) (ta tb : TE) : TE := fun σ H Q => t σ H fun c H1 => if c = true then ta σ H1 Q else tb σ H1 Q
end
end L2

namespace L2
open PySem PySem.Spec PyProof.Rows

/-! ### a list, a tuple that is read: tracked, frozen, or an object of the module -/
def SqL (K : PySem.W.Frag) (H : Hp) (a : Addr) (xs : List V) : Prop :=
  Rd H a (.lst xs) ∨
    ∃ (o : Obj) (its : Array Value) (n : Nat), K.lookup a = some o ∧ o.cls = .type "list" ∧ o.dict = none ∧ o.data = .seq its n ∧ its.size ≤ sizeLine ∧ Vals xs its.toList
def SqT (K : PySem.W.Frag) (H : Hp) (a : Addr) (xs : List V) : Prop :=
  Rd H a (.tup xs) ∨
    ∃ (o : Obj) (its : Array Value) (n : Nat), K.lookup a = some o ∧ o.cls = .type "tuple" ∧ o.data = .seq its n ∧ its.size ≤ sizeLine ∧ Vals xs its.toList
def absV : Value → Option V
  | .none => some .non
  | .bool b => some (.bl b)
  | .int i _ => some (.int i)
  | .str x _ => some (.str x)
  | .bytes b _ => some (.byt b)
  | .float b _ => some (.flt b)
  | .ref a => some (.ref a)
  | .type n => some (.ty n)
  | _ => none
theorem RelV.abs {x : V} {u : Value} (r : RelV x u) : absV u = some x := by
  cases x with
  | non => cases r; rfl
  | bl _ => cases r; rfl
  | int _ => obtain ⟨t, rfl⟩ := r; rfl
  | str _ => obtain ⟨t, rfl⟩ := r; rfl
  | byt _ => obtain ⟨t, rfl⟩ := r; rfl
  | flt _ => obtain ⟨t, rfl⟩ := r; rfl
  | ref _ => cases r; rfl
  | ty _ => cases r; rfl
theorem RelV.inj {x y : V} {u : Value} (r : RelV x u) (q : RelV y u) : x = y := Option.some.inj (r.abs.symm.trans q.abs)
theorem Vals.inj : ∀ {xs ys : List V} {us : List Value}, Vals xs us → Vals ys us → xs = ys
  | _, _, _, .nil, .nil => rfl
  | _, _, _, .cons r t, .cons r' t' => by rw [r.inj r', Vals.inj t t']
section
variable {X : Cx} {pins : List (Addr × Obj)} {σ : St} {H : Hp} {s : Shared} {a : Addr} {xs ys : List V}
theorem SqL.of {K : PySem.W.Frag} (h : H a = some (.lst xs)) : SqL K H a xs := .inl (.inl h)
theorem SqT.of {K : PySem.W.Frag} (h : H a = some (.tup xs)) : SqT K H a xs := .inl (.inl h)
theorem Inv.list (I : Inv X pins σ H s) (h : SqL X.K H a xs) : ∃ its : List Value, Vals xs its ∧ PlainL s.heap a its.toArray ∧ xs.length ≤ sizeLine := by
  rcases h with h | ⟨o, its, n, hk, hc, hd, hs, hz, r⟩
  · obtain ⟨z, its, n, r, e⟩ := h.ok I.hok
    exact ⟨its, r, ⟨_, n, e, rfl, rfl, rfl⟩, z⟩
  · refine ⟨its.toList, r, ⟨o, n, I.kIn a o hk, hc, hd, by simpa using hs⟩, ?_⟩
    have e := r.length
    simp only [Array.length_toList] at e
    omega
theorem Inv.tuple (I : Inv X pins σ H s) (h : SqT X.K H a xs) : ∃ its : List Value, Vals xs its ∧ IsTup s.heap a its.toArray ∧ xs.length ≤ sizeLine := by
  rcases h with h | ⟨o, its, n, hk, hc, hs, hz, r⟩
  · obtain ⟨z, its, r, p⟩ := h.ok I.hok
    exact ⟨its, r, p, z.1⟩
  · refine ⟨its.toList, r, ⟨o, I.kIn a o hk, hc, n, by simpa using hs⟩, ?_⟩
    have e := r.length
    simp only [Array.length_toList] at e
    omega
theorem Inv.list_inj (I : Inv X pins σ H s) (h : SqL X.K H a xs) (h' : SqL X.K H a ys) : xs = ys := by
  obtain ⟨its, r, ⟨o, n, e, _, _, d⟩, _⟩ := I.list h
  obtain ⟨its', r', ⟨o', n', e', _, _, d'⟩, _⟩ := I.list h'
  rw [e] at e'; cases e'
  rw [d] at d'
  injection d' with d1 _
  have : its = its' := by simpa using congrArg Array.toList d1
  subst this
  exact r.inj r'
end

/-! ### another wish about exceptions -/
abbrev Cx.wish (X : Cx) (E : Value → Shared → Prop) : Cx := { X with xe := E }
/-- no exception leaves -/
abbrev Cx.nox (X : Cx) : Cx := X.wish fun _ _ => False
theorem Cx.Ok.wish {X : Cx} (ok : X.Ok) (E : Value → Shared → Prop) : (X.wish E).Ok :=
  ⟨ok.mod, ok.kind, ok.glob, ok.blt, ok.above, ok.inj, ok.has, ok.cab, ok.hd, ok.frames, ok.stk, ok.exf, ok.bs, ok.bsz, ok.noex, ok.exfs, ok.funs, ok.frf⟩
theorem Cx.Ok.unwish {X : Cx} {E : Value → Shared → Prop} (ok : (X.wish E).Ok) : X.Ok :=
  ⟨ok.mod, ok.kind, ok.glob, ok.blt, ok.above, ok.inj, ok.has, ok.cab, ok.hd, ok.frames, ok.stk, ok.exf, ok.bs, ok.bsz, ok.noex, ok.exfs, ok.funs, ok.frf⟩
section
variable {X : Cx} {pins : List (Addr × Obj)} {σ : St} {H : Hp} {s : Shared} {E : Value → Shared → Prop}
theorem Inv.wish (I : Inv X pins σ H s) (E : Value → Shared → Prop) : Inv (X.wish E) pins σ H s := ⟨I.ok.wish E, I.os, I.bare, I.base, I.loc, I.cell, I.free, I.freeC, I.pin, I.hok, I.len⟩
theorem Inv.unwish (I : Inv (X.wish E) pins σ H s) : Inv X pins σ H s := ⟨I.ok.unwish, I.os, I.bare, I.base, I.loc, I.cell, I.free, I.freeC, I.pin, I.hok, I.len⟩
theorem SP.unwish {D : Ends} {f : Flow} {s' : Shared} (h : SP (X.wish E) pins D f s') : SP X pins D f s' := by
  cases f with
  | next => obtain ⟨σ', H', I, q⟩ := h; exact ⟨σ', H', I.unwish, q⟩
  | brk => obtain ⟨σ', H', I, q⟩ := h; exact ⟨σ', H', I.unwish, q⟩
  | cont => obtain ⟨σ', H', I, q⟩ := h; exact ⟨σ', H', I.unwish, q⟩
  | ret u => obtain ⟨v, σ', H', I, r, q⟩ := h; exact ⟨v, σ', H', I.unwish, r, q⟩
theorem PSs.nox {st : List Stmt} {t : TS} (h : PSs X.nox st t) : PSs X st t := fun pins s σ H D I hw =>
  wpAny_mono (h pins s σ H D (I.wish _) hw) (fun _ _ q => q.unwish) fun _ _ z => False.elim z
end

/-! ### blocks and small statements -/
section
variable {X : Cx} {st : Stmt} {rest : List Stmt} {t u : TS} {e : Expr} {te : TE} {pos : Pos}
def tNext : TS := fun D σ H => D.nx σ H
def tSeq (t u : TS) : TS := fun D σ H => t { D with nx := u D } σ H
theorem pss_nil : PSs X [] tNext := fun _ _ σ H _ I h => wpAny_execs_nil ⟨σ, H, I, h⟩
theorem pss_cons (h1 : PS X st t) (h2 : PSs X rest u) : PSs X (st :: rest) (tSeq t u) := by
  intro pins s σ H D I h
  refine wpAny_execs_cons (thn (h1 pins s σ H { D with nx := u D } I h) fun f s1 q => ?_)
  cases f with
  | next =>
    obtain ⟨σ', H', I', q⟩ := q
    exact h2 pins s1 σ' H' D I' q
  | ret v => exact q
  | brk => exact q
  | cont => exact q
theorem pss_one (h1 : PS X st t) : PSs X [st] t := by
  intro pins s σ H D I h
  refine wpAny_execs_cons (thn (h1 pins s σ H D I h) fun f s1 q => ?_)
  cases f with
  | next => exact wpAny_execs_nil q
  | ret v => exact q
  | brk => exact q
  | cont => exact q
def tBreak : TS := fun D σ H => D.bk σ H
def tCont : TS := fun D σ H => D.ct σ H
/-- in a def's body nothing is shown -/
theorem Inv.quiet {pins : List (Addr × Obj)} {σ : St} {H : Hp} {s : Shared} (I : Inv X pins σ H s) : interactive X.env = false := by simp [interactive, I.ok.kind]
/-- an expression whose value is dropped -/
def tDrop (te : TE) : TS := fun D σ H => te σ H fun _ H1 => D.nx σ H1
theorem ps_expr (he : PE X e te) (hs : swapsWith e none pos.line X.env = pure false := by rfl) : PS X (.Expr e pos) (tDrop te) := by
  intro pins s σ H D I h
  exact wpAny_Expr_any (thn (he pins s σ H _ I h) fun v s1 ⟨x, H1, I1, r1, q1⟩ => ⟨σ, H1, I1, q1⟩) I.quiet hs
def tRet (te : TE) : TS := fun D σ H => te σ H D.rt
theorem ps_ret (he : PE X e te) : PS X (.Return (some e) pos) (tRet te) := by
  intro pins s σ H D I h
  exact wpAny_Return_some (thn (he pins s σ H _ I h) fun v s1 ⟨x, H1, I1, r1, q1⟩ => ⟨x, σ, H1, I1, r1, q1⟩)
def tRetN : TS := fun D _ H => D.rt .non H
def tIfS (c : TT) (t u : TS) : TS := fun D σ H => c σ H fun b H1 => if b = true then t D σ H1 else u D σ H1
theorem ps_if {c : Expr} {a b : List Stmt} {tc : TT} (hc : PT X c tc) (ha : PSs X a t) (hb : PSs X b u) : PS X (.If c a b pos) (tIfS tc t u) := by
  intro pins s σ H D I h
  refine wpAny_If (thn (hc pins s σ H _ I h) fun d s1 ⟨H1, I1, q1⟩ => ?_)
  cases d with
  | true => exact ha pins s1 σ H1 D I1 q1
  | false => exact hb pins s1 σ H1 D I1 q1
/-- code that the proof never comes to -/
def tNever : TS := fun _ _ _ => False
theorem ps_never : PS X st tNever := fun _ _ _ _ _ _ h => h.elim
end

/-! ### targets -/
abbrev TG := V → St → Hp → (St → Hp → Prop) → Prop
abbrev TGs := List V → St → Hp → (St → Hp → Prop) → Prop
def PG (X : Cx) (target : Expr) (t : TG) : Prop :=
  ∀ (pins : List (Addr × Obj)) (s : Shared) (σ : St) (H : Hp) (v : V) (u : Value) (Q : St → Hp → Prop), Inv X pins σ H s → RelV v u → t v σ H Q →
    wpAny (model X.prog X.w) X.A (assign target X.env u) (fun _ s' => ∃ σ' H', Inv X pins σ' H' s' ∧ Q σ' H') X.xe s
/-- several targets, one after another -/
def PGs (X : Cx) (ts : List Expr) (t : TGs) : Prop :=
  ∀ (pins : List (Addr × Obj)) (s : Shared) (σ : St) (H : Hp) (vs : List V) (us : List Value) (Q : St → Hp → Prop), Inv X pins σ H s → Vals vs us → t vs σ H Q →
    wpAny (model X.prog X.w) X.A (assignInOrder ((assignEach ts X.env).map (·.2)) us) (fun _ s' => ∃ σ' H', Inv X pins σ' H' s' ∧ Q σ' H') X.xe s
/-- o[i] = v, by values -/
abbrev TSet := V → V → V → Hp → (Hp → Prop) → Prop
def PSet (X : Cx) (t : TSet) : Prop :=
  ∀ (pins : List (Addr × Obj)) (s : Shared) (σ : St) (H : Hp) (o i v : V) (ov iv u : Value) (Q : Hp → Prop), Inv X pins σ H s → RelV o ov → RelV i iv → RelV v u → t o i v H Q →
    wpAny (model X.prog X.w) X.A (setItem ov iv u) (fun _ s' => ∃ H', Inv X pins σ H' s' ∧ Q H') X.xe s
/-- a op= b, by values -/
abbrev TIp := V → V → Hp → VK → Prop
def PIp (X : Cx) (op : Operator) (t : TIp) : Prop :=
  ∀ (pins : List (Addr × Obj)) (s : Shared) (σ : St) (H : Hp) (x y : V) (v u : Value) (Q : VK), Inv X pins σ H s → RelV x v → RelV y u → t x y H Q →
    wpAny (model X.prog X.w) X.A (inplaceOp op v u) (EP X pins σ Q) X.xe s
section
variable {X : Cx} {pos : Pos}
def gName (i : Nat) : TG := fun v σ H Q => Q (σ.set i (some v)) H
theorem pg_name {i : Nat} {x : Str} (hN : X.N.Nodup) (hi : X.N[i]? = some x) (hx : Loc X.env.scope x) (hf : X.fn x = true ∨ X.env.scope.names.lookup x = some .local := by first | exact .inl rfl | exact .inr rfl | assumption) : PG X (.Name x pos) (gName i) := by
  intro pins s σ H v u Q I r h
  exact wpAny_assign_Name (store_ok I hN hi hx r (fun s' I' => ⟨_, H, I', h⟩) hf)
def gNil : TGs := fun vs σ H Q => vs = [] ∧ Q σ H
def gCons (t : TG) (u : TGs) : TGs := fun vs σ H Q => ∃ v r, vs = v :: r ∧ t v σ H fun σ' H' => u r σ' H' Q
theorem pgs_nil : PGs X [] gNil := by
  intro pins s σ H vs us Q I r h
  obtain ⟨e, h⟩ := h
  subst e
  cases r
  exact assignInOrder_nil ⟨σ, H, I, h⟩
theorem pgs_cons {e : Expr} {es : List Expr} {t : TG} {u : TGs} (h1 : PG X e t) (h2 : PGs X es u)
    (hs : (assignEach (e :: es) X.env).map (·.2) = assign e X.env :: (assignEach es X.env).map (·.2) := by rfl) : PGs X (e :: es) (gCons t u) := by
  intro pins s σ H vs us Q I r h
  obtain ⟨v, vr, e1, h⟩ := h
  subst e1
  cases r with
  | cons r rr =>
    rw [hs]
    refine assignInOrder_cons (thn (h1 pins s σ H _ _ _ I r h) fun _ s1 ⟨σ1, H1, I1, q1⟩ => ?_)
    exact h2 pins s1 σ1 H1 _ _ Q I1 rr q1
/-- (a, b, ..) = a tuple of that length -/
def gTup (K : PySem.W.Frag) (n : Nat) (t : TGs) : TG := fun v σ H Q => ∃ a xs, v = .ref a ∧ SqT K H a xs ∧ xs.length = n ∧ t xs σ H Q
theorem pg_tup {es : List Expr} {k : Nat} {t : TGs} {n : Nat} (hc : X.calm = true) (h : PGs X es t)
    (hn : (assignEach es X.env).length = n := by rfl) (hst : (assignEach es X.env).findIdx? (·.1) = none := by rfl) : PG X (.Tuple es k pos) (gTup X.K n t) := by
  intro pins s σ H v u Q I r hw
  obtain ⟨a, xs, e1, hq, hl, hw⟩ := hw
  subst e1
  cases r
  obtain ⟨its, rv, ht, hz⟩ := I.tuple hq
  refine assign_Tuple_tuple (I.ok.hd hc) ht (by simp [hn, ← hl, rv.length]) hst fun h' hx => ?_
  have I1 : Inv X pins σ H { s with heap := h' } := I.kept (t' := s.toks) fun b o e => hx b o (Nat.ne_of_lt (Heap.lt_size e)) e
  exact h pins _ σ H xs _ Q I1 (by simpa using rv) hw
/-- o[i] = .. -/
def gSub (to ti : TE) (t : TSet) : TG := fun v σ H Q => to σ H fun o H1 => ti σ H1 fun i H2 => t o i v H2 fun H3 => Q σ H3
/-- target = value -/
def tAsg (te : TE) (g : TG) : TS := fun D σ H => te σ H fun x H1 => g x σ H1 D.nx
theorem ps_asg {tg e : Expr} {te : TE} {g : TG} (he : PE X e te) (hg : PG X tg g) (hs : swapsWithSole [tg] e pos.line X.env = pure false := by rfl) (hw : swappedStores [tg] e X.env = pure none := by rfl)
    (h1 : (assignEach [tg] X.env).map (·.2) = [assign tg X.env] := by rfl) : PS X (.Assign [tg] e pos) (tAsg te g) := by
  intro pins s σ H D I h
  refine wpAny_Assign_stores (thn (he pins s σ H _ I h) fun v s1 ⟨x, H1, I1, r1, q1⟩ => ?_) hs hw
  rw [h1]
  exact thn (hg pins s1 σ H1 x v _ I1 r1 q1) fun _ s2 q => q
/-- name = value -/
theorem ps_set {i : Nat} {x : Str} {e : Expr} {te : TE} {pos' : Pos} (hN : X.N.Nodup) (hi : X.N[i]? = some x) (hx : Loc X.env.scope x) (he : PE X e te) (hs : swapsWith e (some (.Name x pos')) pos.line X.env = pure false := by rfl) (hf : X.fn x = true ∨ X.env.scope.names.lookup x = some .local := by first | exact .inl rfl | exact .inr rfl | assumption) :
    PS X (.Assign [.Name x pos'] e pos) (tAsg te (gName i)) := by
  intro pins s σ H D I h
  refine wpAny_Assign_Name (thn (he pins s σ H _ I h) fun v s1 ⟨y, H1, I1, r1, q1⟩ => ?_) hs
  exact store_ok I1 hN hi hx r1 (fun s2 I2 => ⟨_, H1, I2, q1⟩) hf
/-- a, b = x, y with plain local names: stored from the right; the pair itself is not tracked (the opening rows as in PyProof/Rows/TupAssign.lean:23) -/
def tPar (i j : Nat) (ta : TA) : TS := fun D σ H => ta σ H fun vs H1 => ∃ v w, vs = [v, w] ∧ D.nx ((σ.set i (some v)).set j (some w)) H1
theorem ps_par {i j : Nat} {x y : Str} {a b : Expr} {ta : TA} {px py pt : Pos} {kt k2 pt2} (hc : X.calm = true) (hN : X.N.Nodup) (hi : X.N[i]? = some x) (hj : X.N[j]? = some y) (hij : i ≠ j)
    (hx : X.env.scope.names.lookup x = some .local) (hy : X.env.scope.names.lookup y = some .local) (ha : PA X [a, b] ta)
    (hw : swappedStores [.Tuple [.Name x px, .Name y py] kt pt] (.Tuple [a, b] k2 pt2) X.env = pure (some [x, y]))
    (hs : swapsWithSole [.Tuple [.Name x px, .Name y py] kt pt] (.Tuple [a, b] k2 pt2) pos.line X.env = pure false := by rfl) :
    PS X (.Assign [.Tuple [.Name x px, .Name y py] kt pt] (.Tuple [a, b] k2 pt2) pos) (tPar i j ta) := by
  intro pins s σ H D I h
  rw [exec_Assign_arm]
  refine wpAny_bind (wpAny_standAt ?_)
  rw [hs]
  refine wpAny_bind (wpAny_pure ?_)
  rw [if_neg (by decide)]
  refine wpAny_bind (Tuple_ (thn (ha _ pins s σ H _ I h) fun us s1 ⟨vs, H1, I1, r1, q1⟩ => ?_))
  obtain ⟨v, w, e1, q1⟩ := q1
  subst e1
  obtain ⟨u1, u2, rfl, rv, rw'⟩ : ∃ u1 u2, us = [u1, u2] ∧ RelV v u1 ∧ RelV w u2 := by
    cases r1 with
    | cons p q =>
      cases q with
      | cons p' q' =>
        cases q'
        exact ⟨_, _, rfl, p, p'⟩
  refine wpAny_newObj_type ?_ (by show 2 ≤ sizeLine; decide)
  have I2 : Inv X pins σ H1 { s1 with heap := s1.heap.push { cls := .type "tuple", data := .seq [u1, u2].toArray } } := I1.kept (t' := s1.toks) fun b o e => Heap.get?_push_of_some _ e
  rw [hw]
  refine wpAny_bind (wpAny_pure ?_)
  show wpAny (model X.prog X.w) X.A (do rule "assign.swapped-stores"; let items ← unpackItems (.ref s1.heap.objs.size) 2 none; assignInOrder [fun v => bindName X.env y v, fun v => bindName X.env x v] items.reverse; pure Flow.next) _ _ _
  refine wpAny_bind (wpAny_rule (wpAny_bind (unpackItems_tuple (items := #[u1, u2]) (I.ok.hd hc) (IsTup.new s1.heap _) fun h' hx' => ?_)))
  have I3 := I2.kept (h' := h') (t' := s1.toks) fun b o e => hx' b o (Nat.ne_of_lt (Heap.lt_size e)) e
  show wpAny _ _ (assignInOrder [fun v => bindName X.env y v, fun v => bindName X.env x v] [u2, u1] >>= fun _ => pure Flow.next) _ _ _
  refine wpAny_bind (assignInOrder_cons (wpAny_bindName (store_ok I3 hN hj (.inl hy) rw' (fun s2 I4 => ?_) (.inr hy))))
  refine assignInOrder_cons (wpAny_bindName (store_ok I4 hN hi (.inl hx) rv (fun s3 I5 => assignInOrder_nil (wpAny_pure ?_)) (.inr hx)))
  rw [List.set_comm _ _ (Ne.symm hij)] at I5
  exact ⟨_, H1, I5, q1⟩
/-- name op= e -/
def tAug (i : Nat) (te : TE) (ti : TIp) : TS := fun D σ H => ∃ x, σ[i]? = some (some x) ∧ te σ H fun y H1 => ti x y H1 fun z H2 => D.nx (σ.set i (some z)) H2
theorem ps_aug {i : Nat} {x : Str} {e : Expr} {te : TE} {op : Operator} {ti : TIp} {pos' : Pos} (hN : X.N.Nodup) (hi : X.N[i]? = some x) (hx : Loc X.env.scope x) (he : PE X e te) (ho : PIp X op ti) (hf : X.fn x = true ∨ X.env.scope.names.lookup x = some .local := by first | exact .inl rfl | exact .inr rfl | assumption) :
    PS X (.AugAssign (.Name x pos') op e pos) (tAug i te ti) := by
  intro pins s σ H D I h
  obtain ⟨v, e1, h⟩ := h
  obtain ⟨m, hn, hl⟩ := I.loc
  have vis : Vis X.env.scope x := by rcases hx with k | k; exact .inl k; exact .inr (.inl k)
  obtain ⟨u, r, l⟩ := hl i x v hi e1 vis
  refine wpAny_AugAssign_Name ?_
  have go : wpAny (model X.prog X.w) X.A (eval e X.env) (fun w s₂ => wpAny (model X.prog X.w) X.A (inplaceOp op u w) (fun r s₃ => wpAny (model X.prog X.w) X.A (storeName X.env x r) (fun _ => SP X pins D .next) X.xe s₃) X.xe s₂) X.xe s := by
    refine thn (he pins s σ H _ I h) fun w s1 ⟨y, H1, I1, r1, q1⟩ => ?_
    refine thn (ho pins s1 σ H1 v y u w _ I1 r r1 q1) fun z s2 ⟨zv, H2, I2, r2, q2⟩ => ?_
    exact store_ok I2 hN hi hx r2 (fun s3 I3 => ⟨_, H2, I3, q2⟩) hf
  rcases l with ⟨hk, hm⟩ | ⟨hk, c, hc, hcell⟩
  · exact wpAny_loadName_local I.ok.kind hk hn hm go
  · rcases hk with hk | hk
    · exact wpAny_loadName_cell I.ok.kind hk hc hcell go
    · rcases hx with k | k
      · have : X.env.scope.names.lookup x = some .free := hk
        rw [k] at this; cases this
      · have : X.env.scope.names.lookup x = some .free := hk
        rw [k] at this; cases this
/-- o[i] op= e -/
def tAugS (to ti te : TE) (tget : V → V → Hp → VK → Prop) (tip : TIp) (tset : TSet) : TS := fun D σ H => to σ H fun o H1 => ti σ H1 fun i H2 => tget o i H2 fun x H3 => te σ H3 fun y H4 => tip x y H4 fun z H5 => tset o i z H5 fun H6 => D.nx σ H6
/-- o[i], by values -/
def PGet (X : Cx) (t : V → V → Hp → VK → Prop) : Prop :=
  ∀ (pins : List (Addr × Obj)) (s : Shared) (σ : St) (H : Hp) (o i : V) (ov iv : Value) (Q : VK), Inv X pins σ H s → RelV o ov → RelV i iv → t o i H Q →
    wpAny (model X.prog X.w) X.A (getItem ov iv) (EP X pins σ Q) X.xe s
/-- ints -/
def ipI (f : Int → Int → Int) : TIp := fun x y H Q => ∃ i j, x = .int i ∧ y = .int j ∧ Q (.int (f i j)) H
theorem ip_add : PIp X .Add (ipI fun i j => i + j) := by
  intro pins s σ H x y v u Q I r1 r2 h
  obtain ⟨i, j, e1, e2, q⟩ := h
  subst e1; subst e2
  obtain ⟨t, rfl⟩ := r1
  obtain ⟨t', rfl⟩ := r2
  exact iadd_int ⟨.int _, H, I.tok _, ⟨_, rfl⟩, q⟩
end

/-! ### while -/
section
variable {X : Cx} {pos : Pos}
/-- the invariant W with its measure -/
def tWhile (c : TT) (tb : TS) : TS := fun D σ H => ∃ W : Nat → St → Hp → Prop, (∃ m, W m σ H) ∧ ∀ m σ H, W m σ H →
  c σ H fun b H1 => if b = true then ∃ N : St → Hp → Prop, (∀ σ' H', N σ' H' → ∃ m', m' < m ∧ W m' σ' H') ∧ tb { D with nx := N, ct := N, bk := D.nx } σ H1 else D.nx σ H1
theorem ps_while {c : Expr} {body : List Stmt} {tc : TT} {tb : TS} (hp : PassesOwn (model X.prog X.w) X.A X.env X.xe) (hc : PT X c tc) (hb : PSs X body tb) : PS X (.While c body [] pos) (tWhile tc tb) := by
  intro pins s σ H D I h
  obtain ⟨W, ⟨m0, w0⟩, turn⟩ := h
  refine wpAny_While (codeAny_whileLoop (fun n s' => ∃ σ' H', Inv X pins σ' H' s' ∧ W n σ' H') ?_ m0 ⟨σ, H, I, w0⟩)
  rintro n s1 ⟨σ1, H1, I1, w1⟩
  refine wpAny_passesOwn hp (thn (hc pins s1 σ1 H1 _ I1 (turn n σ1 H1 w1)) fun b s2 ⟨H2, I2, q2⟩ => ?_)
  cases b with
  | true =>
    obtain ⟨N, hN, q2⟩ := q2
    rw [if_pos rfl]
    refine wpAny_passesOwn hp (thn (hb pins s2 σ1 H2 _ I2 q2) fun f s3 q3 => ?_)
    cases f with
    | next =>
      obtain ⟨σ3, H3, I3, n3⟩ := q3
      obtain ⟨m', hm, w3⟩ := hN σ3 H3 n3
      exact ⟨m', hm, σ3, H3, I3, w3⟩
    | cont =>
      obtain ⟨σ3, H3, I3, n3⟩ := q3
      obtain ⟨m', hm, w3⟩ := hN σ3 H3 n3
      exact ⟨m', hm, σ3, H3, I3, w3⟩
    | brk => exact q3
    | ret v => exact q3
  | false =>
    rw [if_neg Bool.false_ne_true]
    exact wpAny_execs_nil ⟨σ1, H2, I2, q2⟩
end

/-! ### what a loop or a comprehension walks -/
/-- at turn i: it yields x (the heap may grow), or it stops -/
structure It where
  go : Nat → Hp → Prop
  yld : Nat → Hp → V → Hp → Prop
  stop : Nat → Hp → Prop
/-- the iterator's own objects may turn: they are not the frame's, not pinned, younger than the entry (or a comprehension's own) -/
def FpOk (X : Cx) (pins : List (Addr × Obj)) (H : Hp) (b : Addr) : Prop :=
  H b = none ∧ b ≠ X.env.locals ∧ b ∉ X.fs ∧ (b ∈ X.ex ∨ X.s₀.heap.objs.size ≤ b) ∧ (∀ x c, X.env.cells.lookup x = some c → c ≠ b) ∧ ∀ p ∈ X.pn ++ pins, p.1 ≠ b
theorem Inv.fpOk {X : Cx} {pins : List (Addr × Obj)} {σ : St} {H H' : Hp} {s : Shared} {b : Addr} (I : Inv X pins σ H s) (hb : s.heap.objs.size ≤ b) (hn : H' b = none) : FpOk X pins H' b := by
  refine ⟨hn, Nat.ne_of_gt (Nat.lt_of_lt_of_le I.lt hb), I.nofs hb, .inr (Nat.le_trans I.sz hb), fun x c e z => ?_, fun p hp z => ?_⟩
  · obtain ⟨v, q⟩ := I.cell x c e
    exact absurd (Nat.lt_of_lt_of_le q.lt (by rw [z]; exact hb)) (Nat.lt_irrefl _)
  · exact absurd (Nat.lt_of_lt_of_le (Heap.lt_size (I.pin p hp).1) (by rw [z]; exact hb)) (Nat.lt_irrefl _)
structure Turn (P : Program) (w : World) (K : PySem.W.Frag) (tg : Expr) (J : It) (fp : List Addr) (it : Addr) (tn : Nat → Heap → Prop) : Prop where
  mem : it ∈ fp
  obj : ∀ i h, tn i h → ∀ b ∈ fp, ∃ o, h.get? b = some o ∧ ∀ v, o.data ≠ .cell v
  keep : ∀ i h h', tn i h → (∀ b ∈ fp, ∀ o, h.get? b = some o → h'.get? b = some o) → tn i h'
  item : ∀ (X : Cx), X.prog = P → X.w = w → X.K = K → X.calm = true → ∀ (i : Nat) (pins : List (Addr × Obj)) (s : Shared) (σ : St) (H : Hp) (E : Value → Shared → Prop), Inv X pins σ H s → (∀ b ∈ fp, FpOk X pins H b) → tn i s.heap → J.go i H →
    wpAny (model P w) X.A (pyNext (.ref it)) (fun r s1 => ∃ u, r = some u ∧
      wpAny (model P w) X.A (letOwnedTupleGo tg (.ref it) u) (fun _ s2 => ∃ x H', Inv X pins σ H' s2 ∧ RelV x u ∧ J.yld i H x H' ∧ tn (i + 1) s2.heap ∧ ∀ b ∈ fp, H' b = none) E s1) E s
  done : ∀ (X : Cx), X.prog = P → X.w = w → X.K = K → X.calm = true → ∀ (i : Nat) (pins : List (Addr × Obj)) (s : Shared) (σ : St) (H : Hp) (E : Value → Shared → Prop), Inv X pins σ H s → (∀ b ∈ fp, FpOk X pins H b) → tn i s.heap → J.stop i H →
    wpAny (model P w) X.A (pyNext (.ref it)) (fun r s1 => r = none ∧ Inv X pins σ H s1) E s
  self : ∀ (A : Around) (i : Nat) (s : Shared) (Q : Value → Shared → Prop) (E : Value → Shared → Prop), tn i s.heap → Q (.ref it) s → wpAny (model P w) A (pyIter (.ref it)) Q E s
abbrev TI := St → Hp → (It → Hp → Prop) → Prop
/-- an iterator has come -/
def PIE (X : Cx) (pins : List (Addr × Obj)) (σ : St) (tg : Expr) (R : It → Hp → Prop) (itv : Value) (s2 : Shared) : Prop :=
  ∃ (it : Addr) (fp : List Addr) (tn : Nat → Heap → Prop) (J : It) (H' : Hp), itv = .ref it ∧ Inv X pins σ H' s2 ∧ Turn X.prog X.w X.K tg J fp it tn ∧ tn 0 s2.heap ∧ (∀ b ∈ fp, FpOk X pins H' b) ∧ R J H'
def PI (X : Cx) (tg iter : Expr) (wi : TI) : Prop :=
  ∀ (pins : List (Addr × Obj)) (s : Shared) (σ : St) (H : Hp) (R : It → Hp → Prop), Inv X pins σ H s → wi σ H R →
    wpAny (model X.prog X.w) X.A (eval iter X.env) (fun v s1 => wpAny (model X.prog X.w) X.A (pyIter v) (PIE X pins σ tg R) X.xe s1) X.xe s

/-- the step ahead of the store is nothing for an iterator that keeps no tuple -/
theorem go_of {M : Model} {A : Around} {E : Value → Shared → Prop} {s : Shared} {tg : Expr} {it : Addr} {u : Value} {o : Obj} {n : String} {vs : Array Value} {Q : Unit → Shared → Prop} (ho : s.heap.get? it = some o) (hc : o.cls = .type n) (hd : o.data = .fields vs)
    (hn : ["enumerate", "zip", "dict_itemiterator", "dict_reverseitemiterator", "odict_iterator", "itertools.zip_longest", "itertools.pairwise"].contains n = false) (hQ : Q () s) : wpAny M A (letOwnedTupleGo tg (.ref it) u) Q E s := by
  unfold letOwnedTupleGo
  cases tg <;> first
    | exact wpAny_pure hQ
    | (cases u <;> first
        | exact wpAny_pure hQ
        | (refine wpAny_bind (wpAny_load ho ?_)
           rw [hc, hd]
           show wpAny M A (if (["enumerate", "zip", "dict_itemiterator", "dict_reverseitemiterator", "odict_iterator", "itertools.zip_longest", "itertools.pairwise"].contains n && vs[0]? == some (rawInt _)) = true then _ else _) Q E s
           rw [if_neg (by intro h; rw [hn, Bool.false_and] at h; cases h)]
           exact wpAny_pure hQ))

/-- the list at a, as it stands at each turn (a loop may append to it) -/
def Itl (K : PySem.W.Frag) (a : Addr) : It :=
  ⟨fun i H => ∃ xs x, SqL K H a xs ∧ xs[i]? = some x, fun i H x H' => H' = H ∧ ∀ xs, SqL K H a xs → xs[i]? = some x, fun i H => ∃ xs, SqL K H a xs ∧ xs.length ≤ i⟩
def Itt (K : PySem.W.Frag) (a : Addr) : It :=
  ⟨fun i H => ∃ xs x, SqT K H a xs ∧ xs[i]? = some x, fun i H x H' => H' = H ∧ ∀ xs, SqT K H a xs → xs[i]? = some x, fun i H => ∃ xs, SqT K H a xs ∧ xs.length ≤ i⟩
/-- lo, lo + 1, .. (n of them) -/
def Itr (lo : Int) (n : Nat) : It := ⟨fun i _ => i < n, fun i H x H' => H' = H ∧ x = .int (lo + i), fun i _ => n ≤ i⟩
theorem turn_list {P : Program} {w : World} {K : PySem.W.Frag} {tg : Expr} (a it : Addr) : Turn P w K tg (Itl K a) [it] it (fun i h => h.IsListIter it a i) where
  mem := by simp
  obj := fun i h st b hb => by
    have e : b = it := by simpa using hb
    subst e
    obtain ⟨o, e, c, d⟩ := st
    exact ⟨o, e, fun v z => by rw [d] at z; cases z⟩
  keep := fun i h h' st k => st.at fun o e => k it (by simp) o e
  item := by
    intro X hP hw hK hc i pins s σ H E I hf st hg
    subst hP hw hK
    obtain ⟨xs, x, hq, hx⟩ := hg
    obtain ⟨its, rv, p, hz⟩ := I.list hq
    obtain ⟨u, hu, ru⟩ := rv.get hx
    obtain ⟨f0, f1, f2, f3, f4, f5⟩ := hf it (by simp)
    refine wpAny_pyNext_list_item st p.isList (x := u) (by simpa using hu) fun h' st' sb => ?_
    have I1 : Inv X pins σ H { s with heap := h' } := I.turned (t' := s.toks) (fun b o hb e => (sb.2 b hb).trans e) f0 f1 f3 f4 f5
    obtain ⟨o, e, c, d⟩ := id st'
    exact ⟨u, rfl, go_of (s := { s with heap := h' }) e c d (by decide) ⟨x, H, I1, ru, ⟨rfl, fun ys hy => by rw [I.list_inj hy hq]; exact hx⟩, st', fun b hb => (hf b hb).1⟩⟩
  done := by
    intro X hP hw hK hc i pins s σ H E I hf st hg
    subst hP hw hK
    obtain ⟨xs, hq, hx⟩ := hg
    obtain ⟨its, rv, p, hz⟩ := I.list hq
    obtain ⟨f0, f1, f2, f3, f4, f5⟩ := hf it (by simp)
    have hl := rv.length
    exact wpAny_pyNext_list_end (I.ok.hd hc) st p.isList (by simp; omega) fun h' eb => ⟨rfl, I.turned (t' := s.toks) (fun b o hb e => eb b o hb e) f0 f1 f3 f4 f5⟩
  self := fun _ _ _ _ _ st h => wpAny_pyIter_listiter st h
theorem turn_range {P : Program} {w : World} {K : PySem.W.Frag} {tg : Expr} (it : Addr) (lo : Int) (n : Nat) : Turn P w K tg (Itr lo n) [it] it (fun i h => IsRangeIter h it (lo + (i : Nat) * 1) ((n : Int) - (i : Nat)) 1) where
  mem := by simp
  obj := fun i h st b hb => by
    have e : b = it := by simpa using hb
    subst e
    exact ⟨_, st, fun v z => by
      have z' : Data.fields _ = Data.cell v := z
      cases z'⟩
  keep := fun i h h' st k => k it (by simp) _ st
  item := by
    intro X hP hw hK hc i pins s σ H E I hf st hg
    subst hP hw hK
    obtain ⟨f0, f1, f2, f3, f4, f5⟩ := hf it (by simp)
    have W := Walks.range (prog := X.prog) (w := X.w) (I.ok.hd hc) it lo 1 n
    refine W.item i s _ _ hg st fun v h' tk hv st' kk => ?_
    obtain ⟨t, rfl⟩ := hv
    have I1 : Inv X pins σ H { s with heap := h', toks := tk } := I.turned (fun b o hb e => kk b o (by simpa using hb) e) f0 f1 f3 f4 f5
    refine ⟨_, rfl, go_of (s := { s with heap := h', toks := tk }) (n := "range_iterator") st' rfl rfl (by decide) ⟨.int (lo + i), H, I1, ⟨t, ?_⟩, ⟨rfl, rfl⟩, st', fun b hb => (hf b hb).1⟩⟩
    rw [Int.mul_one]
  done := by
    intro X hP hw hK hc i pins s σ H E I hf st hg
    subst hP hw hK
    obtain ⟨f0, f1, f2, f3, f4, f5⟩ := hf it (by simp)
    exact wpAny_pyNext_range_end (I.ok.hd hc) st (by have : n ≤ i := hg; omega) fun h' eb => ⟨rfl, I.turned (t' := s.toks) (fun b o hb e => eb b o hb e) f0 f1 f3 f4 f5⟩
  self := fun _ _ _ _ _ st h => wpAny_pyIter_rangeiter st h
end L2

namespace L2
open PySem PySem.Spec PyProof.Rows
section
variable {X : Cx} {tg : Expr}
def iList (K : PySem.W.Frag) (tl : TE) : TI := fun σ H R => tl σ H fun x H1 => ∃ a, x = .ref a ∧ (∃ xs, SqL K H1 a xs) ∧ R (Itl K a) H1
def iTup (K : PySem.W.Frag) (tl : TE) : TI := fun σ H R => tl σ H fun x H1 => ∃ a, x = .ref a ∧ (∃ xs, SqT K H1 a xs) ∧ R (Itt K a) H1
theorem pi_list {l : Expr} {tl : TE} (hl : PE X l tl) : PI X tg l (iList X.K tl) := by
  intro pins s σ H R I h
  refine thn (hl pins s σ H _ I h) fun v s1 ⟨x, H1, I1, r1, q1⟩ => ?_
  obtain ⟨a, e, ⟨xs, hq⟩, q⟩ := q1
  subst e
  cases r1
  obtain ⟨its, rv, p, hz⟩ := I1.list hq
  refine wpAny_pyIter_list p.isList ?_
  refine ⟨s1.heap.objs.size, [s1.heap.objs.size], _, _, H1, rfl, I1.kept (t' := s1.toks) fun b o e => Heap.get?_push_of_some _ e, turn_list a _, ⟨_, Heap.get?_push_size _ rfl, rfl, rfl⟩, fun b hb => ?_, q⟩
  have e : b = s1.heap.objs.size := by simpa using hb
  subst e
  exact I1.fpOk (Nat.le_refl _) (I1.hok.fresh (Nat.le_refl _))
/-- a range object just made, walked -/
theorem range_it {pins : List (Addr × Obj)} {σ : St} {H : Hp} {s : Shared} {R : It → Hp → Prop} {E : Value → Shared → Prop} {lo hi : Int} {t u v : Tok} {tk : Nat} (I : Inv X pins σ H s) (h1 : -(2 ^ 62) ≤ lo) (h2 : lo < 2 ^ 62) (h3 : -(2 ^ 62) ≤ hi) (h4 : hi < 2 ^ 62)
    (q : R (Itr lo (hi - lo).toNat) H) : wpAny (model X.prog X.w) X.A (pyIter (.ref s.heap.objs.size)) (PIE X pins σ tg R) E { s with heap := s.heap.push { cls := .type "range", data := .fields #[.int lo t, .int hi u, .int 1 v] }, toks := tk } := by
  refine wpAny_pyIter_range (IsRange.new ..) (small_one h1 h2 h3 h4) ?_
  have I1 : Inv X pins σ H { s with heap := s.heap.push { cls := .type "range", data := .fields #[.int lo t, .int hi u, .int 1 v] }, toks := tk } := I.kept fun b o e => Heap.get?_push_of_some _ e
  refine ⟨(s.heap.push { cls := .type "range", data := .fields #[.int lo t, .int hi u, .int 1 v] }).objs.size, [(s.heap.push { cls := .type "range", data := .fields #[.int lo t, .int hi u, .int 1 v] }).objs.size], _, _, H, rfl,
    I1.kept (t' := tk) fun b o e => Heap.get?_push_of_some _ e, turn_range _ lo (hi - lo).toNat, ?_, fun b hb => ?_, q⟩
  · have e1 : lo + ((0 : Nat) : Int) * 1 = lo := by simp
    have e2 : (((hi - lo).toNat : Nat) : Int) - ((0 : Nat) : Int) = Builtin.Range.rangeSize lo hi 1 := by rw [rangeSize_one]; split <;> omega
    show IsRangeIter _ _ (lo + ((0 : Nat) : Int) * 1) ((((hi - lo).toNat : Nat) : Int) - ((0 : Nat) : Int)) 1
    rw [e1, e2]
    exact Heap.get?_push_size _ rfl
  · have e : b = (s.heap.push { cls := .type "range", data := .fields #[.int lo t, .int hi u, .int 1 v] }).objs.size := by simpa using hb
    subst e
    exact I1.fpOk (Nat.le_refl _) (I1.hok.fresh (Nat.le_refl _))
def iRng1 (ta : TA) : TI := fun σ H R => ta σ H fun vs H1 => ∃ j : Int, vs = [.int j] ∧ -(2 ^ 62) ≤ j ∧ j < 2 ^ 62 ∧ R (Itr 0 j.toNat) H1
def iRng2 (ta : TA) : TI := fun σ H R => ta σ H fun vs H1 => ∃ i j : Int, vs = [.int i, .int j] ∧ (-(2 ^ 62) ≤ i ∧ i < 2 ^ 62 ∧ -(2 ^ 62) ≤ j ∧ j < 2 ^ 62) ∧ R (Itr i (j - i).toNat) H1
theorem pi_range1 {a : Expr} {ta : TA} {p pos : Pos} (hg : Gl X "range") (hm : X.mg "range" = none) (ha : PA X [a] ta) (hs : starEach [a] X.env = [(false, eval a X.env)] := by rfl) : PI X tg (.Call (.Name "range" p) [a] [] pos) (iRng1 ta) := by
  intro pins s σ H R I h
  refine Call_ (ld_blt I hg hm boot_range (PyProof.Rows.callWith_type1 (thn (ha pos pins s σ H _ I h) fun us s1 ⟨vs, H1, I1, r1, q1⟩ => ?_) hs rfl))
  obtain ⟨j, e, q1, q2, q⟩ := q1
  subst e
  cases r1 with
  | cons r rr =>
    cases rr
    obtain ⟨t, rfl⟩ := r
    exact call_range_1 (range_it I1 (by omega) (by omega) q1 q2 (by simpa using q))
theorem pi_range2 {a b : Expr} {ta : TA} {p pos : Pos} (hg : Gl X "range") (hm : X.mg "range" = none) (ha : PA X [a, b] ta) (hs : starEach [a, b] X.env = [(false, eval a X.env), (false, eval b X.env)] := by rfl) (hs2 : starEach [b] X.env = [(false, eval b X.env)] := by rfl) :
    PI X tg (.Call (.Name "range" p) [a, b] [] pos) (iRng2 ta) := by
  intro pins s σ H R I h
  refine Call_ (ld_blt I hg hm boot_range (PyProof.Rows.callWith_type1 (thn (ha pos pins s σ H _ I h) fun us s1 ⟨vs, H1, I1, r1, q1⟩ => ?_) (by rw [hs, hs2]) (by rw [hs2]; rfl)))
  obtain ⟨i, j, e, ⟨q1, q2, q3, q4⟩, q⟩ := q1
  subst e
  cases r1 with
  | cons r rr =>
    cases rr with
    | cons r' rr =>
      cases rr
      obtain ⟨t, rfl⟩ := r
      obtain ⟨t', rfl⟩ := r'
      exact call_range_2 (range_it I1 q1 q2 q3 q4 q)

/-! ### for -/
/-- W: the invariant by the turn and a measure; N: what the body is to reach -/
def tFor (wi : TI) (g : TG) (tb : TS) : TS := fun D σ H => wi σ H fun J H1 => ∃ W : Nat → Nat → St → Hp → Prop, (∃ m, W 0 m σ H1) ∧ ∀ i m σ H, W i m σ H →
  (J.stop i H ∧ D.nx σ H) ∨ (J.go i H ∧ ∃ N : St → Hp → Prop, (∀ σ' H', N σ' H' → ∃ m', m' < m ∧ W (i + 1) m' σ' H') ∧ ∀ x H', J.yld i H x H' → g x σ H' fun σ2 H2 => tb { D with nx := N, ct := N, bk := D.nx } σ2 H2)
/-- the records at fp as they stand -/
def pinsAt (fp : List Addr) (h : Heap) : List (Addr × Obj) := fp.filterMap fun b => (h.get? b).map fun o => (b, o)
theorem mem_pinsAt {fp : List Addr} {h : Heap} {b : Addr} {o : Obj} (hb : b ∈ fp) (e : h.get? b = some o) : (b, o) ∈ pinsAt fp h := List.mem_filterMap.mpr ⟨b, hb, by rw [e]; rfl⟩
theorem of_pinsAt {fp : List Addr} {h : Heap} {p : Addr × Obj} (hp : p ∈ pinsAt fp h) : p.1 ∈ fp ∧ h.get? p.1 = some p.2 := by
  obtain ⟨b, hb, e⟩ := List.mem_filterMap.mp hp
  cases q : h.get? b with
  | none => rw [q] at e; cases e
  | some o =>
    rw [q] at e
    have e' : (b, o) = p := Option.some.inj e
    subst e'
    exact ⟨hb, q⟩
theorem Inv.pinned {pins : List (Addr × Obj)} {σ : St} {H : Hp} {s : Shared} {fp : List Addr} (I : Inv X pins σ H s) (hf : ∀ b ∈ fp, FpOk X pins H b) (ho : ∀ b ∈ fp, ∃ o, s.heap.get? b = some o ∧ ∀ v, o.data ≠ .cell v) : Inv X (pins ++ pinsAt fp s.heap) σ H s :=
  I.pins_of fun p hp => (List.mem_append.mp hp).elim (fun z => I.pin p (List.mem_append_right _ z)) fun z => by
    obtain ⟨hb, e⟩ := of_pinsAt z
    obtain ⟨f0, f1, f2, _⟩ := hf p.1 hb
    obtain ⟨o, e', d⟩ := ho p.1 hb
    rw [e] at e'; cases e'
    exact ⟨e, f0, f1, f2, d⟩
theorem Inv.unpinned {pins pl : List (Addr × Obj)} {σ : St} {H : Hp} {s : Shared} (I : Inv X (pins ++ pl) σ H s) : Inv X pins σ H s := I.pins_of fun p hp => I.pin p (List.mem_append_right _ (List.mem_append_left _ hp))
theorem ps_for {iter : Expr} {body : List Stmt} {wi : TI} {g : TG} {tb : TS} {pos : Pos} (hp : PassesOwn (model X.prog X.w) X.A X.env X.xe) (hc : X.calm = true) (hi : PI X tg iter wi) (hg : PG X tg g) (hb : PSs X body tb)
    (hs : ∀ x, foldedSetIterable iter X.env x = pure x := by intro _; rfl) : PS X (.For tg iter body [] pos) (tFor wi g tb) := by
  intro pins s σ H D I h
  refine wpAny_For (thn (hi pins s σ H _ I h) fun v s1 h1 => thn h1 fun itv s2 h2 => ?_) hs
  obtain ⟨it, fp, tn, J, H2, e, I2, T, st2, f2, W, ⟨m0, w0⟩, turn⟩ := h2
  subst e
  -- what stays true of the iterator's objects through the loop
  have stat : ∀ {H' : Hp}, (∀ b ∈ fp, H' b = none) → ∀ b ∈ fp, FpOk X pins H' b := fun hn b hb => ⟨hn b hb, (f2 b hb).2⟩
  refine codeAny_forLoop_any (fun n s' => ∃ i σ' H', Inv X pins σ' H' s' ∧ tn i s'.heap ∧ (∀ b ∈ fp, H' b = none) ∧ W i n σ' H') ?_ m0 ⟨0, σ, H2, I2, st2, fun b hb => (f2 b hb).1, w0⟩
  rintro n s3 ⟨i, σ3, H3, I3, st3, fr3, w3⟩
  rcases turn i n σ3 H3 w3 with ⟨stop, qn⟩ | ⟨go, N, hN, step⟩
  · refine wpAny_passesOwn hp (thn (T.done X rfl rfl rfl hc i pins s3 σ3 H3 X.xe I3 (stat fr3) st3 stop) fun r s4 ⟨hr, I4⟩ => ?_)
    subst hr
    exact wpAny_execs_nil ⟨σ3, H3, I4, qn⟩
  · refine wpAny_passesOwn hp (thn (T.item X rfl rfl rfl hc i pins s3 σ3 H3 X.xe I3 (stat fr3) st3 go) fun r s4 ⟨u, hr, h4⟩ => ?_)
    subst hr
    refine wpAny_passesOwn hp (thn h4 fun _ s5 ⟨x, H5, I5, r5, y5, st5, fr5⟩ => ?_)
    have I5' := I5.pinned (stat fr5) (T.obj _ _ st5)
    refine wpAny_passesOwn hp (thn (hg _ s5 σ3 H5 x u _ I5' r5 (step x H5 y5)) fun _ s6 ⟨σ6, H6, I6, q6⟩ => ?_)
    refine wpAny_passesOwn hp (thn (hb _ s6 σ6 H6 _ I6 q6) fun f s7 q7 => ?_)
    have again : ∀ {σ7 : St} {H7 : Hp}, Inv X (pins ++ pinsAt fp s5.heap) σ7 H7 s7 → N σ7 H7 → ∃ m, m < n ∧ ∃ i σ' H', Inv X pins σ' H' s7 ∧ tn i s7.heap ∧ (∀ b ∈ fp, H' b = none) ∧ W i m σ' H' := fun {σ7 H7} I7 n7 => by
      obtain ⟨m', hm, w7⟩ := hN σ7 H7 n7
      refine ⟨m', hm, i + 1, σ7, H7, I7.unpinned, T.keep _ _ _ st5 fun b hb o e => (I7.pin (b, o) (List.mem_append_right _ (List.mem_append_right _ (mem_pinsAt hb e)))).1, fun b hb => ?_, w7⟩
      obtain ⟨o, e, d⟩ := T.obj _ _ st5 b hb
      exact (I7.pin (b, o) (List.mem_append_right _ (List.mem_append_right _ (mem_pinsAt hb e)))).2.1
    cases f with
    | next => obtain ⟨σ7, H7, I7, n7⟩ := q7; exact again I7 n7
    | cont => obtain ⟨σ7, H7, I7, n7⟩ := q7; exact again I7 n7
    | brk => obtain ⟨σ7, H7, I7, q7⟩ := q7; exact ⟨σ7, H7, I7.unpinned, q7⟩
    | ret v => obtain ⟨x7, σ7, H7, I7, r7, q7⟩ := q7; exact ⟨x7, σ7, H7, I7.unpinned, r7, q7⟩
end

/-! ### the forms one uses -/
/-- over a list that the body leaves as it is -/
theorem for_list {K : PySem.W.Frag} {a : Addr} {xs : List V} {g : TG} {tb : TS} {D : Ends} {σ : St} {H : Hp} (Pv : Nat → St → Hp → Prop) (h0 : Pv 0 σ H) (hl : ∀ i σ H, i ≤ xs.length → Pv i σ H → SqL K H a xs)
    (hs : ∀ i x σ H, xs[i]? = some x → Pv i σ H → g x σ H fun σ2 H2 => tb { D with nx := Pv (i + 1), ct := Pv (i + 1), bk := D.nx } σ2 H2) (hd : ∀ σ H, Pv xs.length σ H → D.nx σ H) :
    ∃ W : Nat → Nat → St → Hp → Prop, (∃ m, W 0 m σ H) ∧ ∀ i m σ H, W i m σ H →
      ((Itl K a).stop i H ∧ D.nx σ H) ∨ ((Itl K a).go i H ∧ ∃ N : St → Hp → Prop, (∀ σ' H', N σ' H' → ∃ m', m' < m ∧ W (i + 1) m' σ' H') ∧ ∀ x H', (Itl K a).yld i H x H' → g x σ H' fun σ2 H2 => tb { D with nx := N, ct := N, bk := D.nx } σ2 H2) := by
  refine ⟨fun i m σ H => m = xs.length - i ∧ i ≤ xs.length ∧ Pv i σ H, ⟨xs.length, by simp, Nat.zero_le _, h0⟩, ?_⟩
  rintro i m σ H ⟨rfl, hi, p⟩
  have q := hl i σ H hi p
  by_cases hlt : i < xs.length
  · refine .inr ⟨⟨xs, xs[i], q, by simp [hlt]⟩, Pv (i + 1), fun σ' H' p' => ⟨xs.length - (i + 1), by omega, rfl, hlt, p'⟩, fun x H' y => ?_⟩
    obtain ⟨e, y⟩ := y
    subst e
    exact hs i x σ _ (y xs q) p
  · have e : i = xs.length := by omega
    subst e
    exact .inl ⟨⟨xs, q, Nat.le_refl _⟩, hd σ H p⟩
theorem for_range {lo : Int} {n : Nat} {g : TG} {tb : TS} {D : Ends} {σ : St} {H : Hp} (Pv : Nat → St → Hp → Prop) (h0 : Pv 0 σ H)
    (hs : ∀ i σ H, i < n → Pv i σ H → g (.int (lo + i)) σ H fun σ2 H2 => tb { D with nx := Pv (i + 1), ct := Pv (i + 1), bk := D.nx } σ2 H2) (hd : ∀ σ H, Pv n σ H → D.nx σ H) :
    ∃ W : Nat → Nat → St → Hp → Prop, (∃ m, W 0 m σ H) ∧ ∀ i m σ H, W i m σ H →
      ((Itr lo n).stop i H ∧ D.nx σ H) ∨ ((Itr lo n).go i H ∧ ∃ N : St → Hp → Prop, (∀ σ' H', N σ' H' → ∃ m', m' < m ∧ W (i + 1) m' σ' H') ∧ ∀ x H', (Itr lo n).yld i H x H' → g x σ H' fun σ2 H2 => tb { D with nx := N, ct := N, bk := D.nx } σ2 H2) := by
  refine ⟨fun i m σ H => m = n - i ∧ i ≤ n ∧ Pv i σ H, ⟨n, by simp, Nat.zero_le _, h0⟩, ?_⟩
  rintro i m σ H ⟨rfl, hi, p⟩
  by_cases hlt : i < n
  · refine .inr ⟨hlt, Pv (i + 1), fun σ' H' p' => ⟨n - (i + 1), by omega, rfl, hlt, p'⟩, fun x H' y => ?_⟩
    obtain ⟨e, y⟩ := y
    subst e y
    exact hs i σ _ hlt p
  · have e : i = n := by omega
    subst e
    exact .inl ⟨Nat.le_refl _, hd σ H p⟩
/-- while, by a word and a measure of the state -/
theorem while_by {c : TT} {tb : TS} {D : Ends} {σ : St} {H : Hp} (Pv : St → Hp → Prop) (μ : St → Hp → Nat) (h0 : Pv σ H)
    (hs : ∀ σ H, Pv σ H → c σ H fun b H1 => if b = true then tb { D with nx := fun σ' H' => Pv σ' H' ∧ μ σ' H' < μ σ H, ct := fun σ' H' => Pv σ' H' ∧ μ σ' H' < μ σ H, bk := D.nx } σ H1 else D.nx σ H1)
    (mono : ∀ σ H Q Q', (∀ b H1, Q b H1 → Q' b H1) → c σ H Q → c σ H Q') : tWhile c tb D σ H := by
  refine ⟨fun m σ H => m = μ σ H ∧ Pv σ H, ⟨_, rfl, h0⟩, ?_⟩
  rintro m σ H ⟨rfl, p⟩
  refine mono σ H _ _ (fun b H1 q => ?_) (hs σ H p)
  cases b with
  | true => exact ⟨_, fun σ' H' ⟨p', l⟩ => ⟨_, l, rfl, p'⟩, q⟩
  | false => exact q
end L2

namespace L2
open PySem PySem.Spec PyProof.Rows

abbrev R2 := V → V → Hp → VK → Prop
/-- a two-place operation on values: f is binaryOp op, inplaceOp op or compareOp op -/
def OpR (X : Cx) (f : Value → Value → Sem Value) (r : R2) : Prop :=
  ∀ (pins : List (Addr × Obj)) (s : Shared) (σ : St) (H : Hp) (x y : V) (v u : Value) (Q : VK), Inv X pins σ H s → RelV x v → RelV y u → r x y H Q →
    wpAny (model X.prog X.w) X.A (f v u) (EP X pins σ Q) X.xe s
/-- a one-place operation -/
def UnR (X : Cx) (f : Value → Sem Value) (r : V → Hp → VK → Prop) : Prop :=
  ∀ (pins : List (Addr × Obj)) (s : Shared) (σ : St) (H : Hp) (x : V) (v : Value) (Q : VK), Inv X pins σ H s → RelV x v → r x H Q →
    wpAny (model X.prog X.w) X.A (f v) (EP X pins σ Q) X.xe s
/-- a call of a value that is known (a builtin, a type) with values -/
def CallR (X : Cx) (f : Value) (r : List V → Hp → VK → Prop) : Prop :=
  ∀ (pins : List (Addr × Obj)) (s : Shared) (σ : St) (H : Hp) (xs : List V) (us : List Value) (Q : VK), Inv X pins σ H s → Vals xs us → r xs H Q →
    wpAny (model X.prog X.w) X.A (call f us) (EP X pins σ Q) X.xe s
/-- a value's truth -/
def TruR (X : Cx) (r : V → Hp → (Bool → Hp → Prop) → Prop) : Prop :=
  ∀ (pins : List (Addr × Obj)) (s : Shared) (σ : St) (H : Hp) (x : V) (v : Value) (Q : Bool → Hp → Prop), Inv X pins σ H s → RelV x v → r x H Q →
    wpAny (model X.prog X.w) X.A (truthy v) (TP X pins σ Q) X.xe s

def tOp (r : R2) (ta tb : TE) : TE := fun σ H Q => ta σ H fun x H1 => tb σ H1 fun y H2 => r x y H2 Q
def tUn (r : V → Hp → VK → Prop) (ta : TE) : TE := fun σ H Q => ta σ H fun x H1 => r x H1 Q
/-- ints in, under C, and a value out -/
def rI (C : Int → Int → Prop) (g : Int → Int → V) : R2 := fun x y H Q => ∃ i j, x = .int i ∧ y = .int j ∧ C i j ∧ Q (g i j) H
def rI0 (g : Int → Int → V) : R2 := fun x y H Q => ∃ i j, x = .int i ∧ y = .int j ∧ Q (g i j) H
def rU (g : Int → V) : V → Hp → VK → Prop := fun x H Q => ∃ i, x = .int i ∧ Q (g i) H

section
variable {X : Cx} {a b c : Expr} {ta tb tc : TE} {pos : Pos}

theorem binT (ha : PE X a ta) (hb : PE X b tb) {pins : List (Addr × Obj)} {s : Shared} {σ : St} {H : Hp} {R : V → V → Hp → Prop} (I : Inv X pins σ H s)
    (h : ta σ H fun x H1 => tb σ H1 fun y H2 => R x y H2) {Q : Value → Shared → Prop} {f : Value → Value → Sem Value}
    (hf : ∀ v u s2 x y H2, Inv X pins σ H2 s2 → RelV x v → RelV y u → R x y H2 → wpAny (model X.prog X.w) X.A (f v u) Q X.xe s2) :
    wpAny (model X.prog X.w) X.A (eval a X.env) (fun v s₁ => wpAny (model X.prog X.w) X.A (eval b X.env) (fun u s₂ => wpAny (model X.prog X.w) X.A (f v u) Q X.xe s₂) X.xe s₁) X.xe s := by
  refine thn (ha pins s σ H _ I h) fun v s1 ⟨x, H1, I1, r1, q1⟩ => ?_
  refine thn (hb pins s1 σ H1 _ I1 q1) fun u s2 ⟨y, H2, I2, r2, q2⟩ => ?_
  exact hf v u s2 x y H2 I2 r1 r2 q2

theorem pe_op {op : Operator} {r : R2} (ho : OpR X (binaryOp op) r) (ha : PE X a ta) (hb : PE X b tb) : PE X (.BinOp a op b pos) (tOp r ta tb) := by
  intro pins s σ H Q I h
  exact wpAny_BinOp (binT ha hb I h fun v u s2 x y H2 I2 rx ry q => ho pins s2 σ H2 x y v u Q I2 rx ry q)
theorem pe_un {op : UnaryOp} {r : V → Hp → VK → Prop} (ho : UnR X (unaryOp op) r) (ha : PE X a ta) : PE X (.UnaryOp op a pos) (tUn r ta) := by
  intro pins s σ H Q I h
  exact UnaryOp_ (thn (ha pins s σ H _ I h) fun v s1 ⟨x, H1, I1, r1, q1⟩ => ho pins s1 σ H1 x v Q I1 r1 q1)
/-! ### ints -/
theorem opI {f : Value → Value → Sem Value} {C : Int → Int → Prop} {g : Int → Int → Int}
    (rule : ∀ (i j : Int) (t u : Tok) (s : Shared) (Q : Value → Shared → Prop) (E : Value → Shared → Prop), C i j → Q (.int (g i j) s.toks) { s with toks := s.toks + 1 } → wpAny (model X.prog X.w) X.A (f (.int i t) (.int j u)) Q E s) :
    OpR X f (rI C fun i j => .int (g i j)) := by
  intro pins s σ H x y v u Q I rx ry h
  obtain ⟨i, j, rfl, rfl, hc, q⟩ := h
  obtain ⟨t, rfl⟩ := rx
  obtain ⟨t', rfl⟩ := ry
  exact rule i j t t' s _ _ hc ⟨.int (g i j), H, I.tok _, ⟨_, rfl⟩, q⟩
theorem opI0 {f : Value → Value → Sem Value} {g : Int → Int → Int}
    (rule : ∀ (i j : Int) (t u : Tok) (s : Shared) (Q : Value → Shared → Prop) (E : Value → Shared → Prop), Q (.int (g i j) s.toks) { s with toks := s.toks + 1 } → wpAny (model X.prog X.w) X.A (f (.int i t) (.int j u)) Q E s) :
    OpR X f (rI0 fun i j => .int (g i j)) := by
  intro pins s σ H x y v u Q I rx ry h
  obtain ⟨i, j, rfl, rfl, q⟩ := h
  obtain ⟨t, rfl⟩ := rx
  obtain ⟨t', rfl⟩ := ry
  exact rule i j t t' s _ _ ⟨.int (g i j), H, I.tok _, ⟨_, rfl⟩, q⟩
theorem opB0 {f : Value → Value → Sem Value} {g : Int → Int → Bool}
    (rule : ∀ (i j : Int) (t u : Tok) (s : Shared) (Q : Value → Shared → Prop) (E : Value → Shared → Prop), Q (.bool (g i j)) s → wpAny (model X.prog X.w) X.A (f (.int i t) (.int j u)) Q E s) :
    OpR X f (rI0 fun i j => .bl (g i j)) := by
  intro pins s σ H x y v u Q I rx ry h
  obtain ⟨i, j, rfl, rfl, q⟩ := h
  obtain ⟨t, rfl⟩ := rx
  obtain ⟨t', rfl⟩ := ry
  exact rule i j t t' s _ _ ⟨.bl (g i j), H, I, rfl, q⟩

def CDiv (i j : Int) : Prop := 0 < j ∧ j < 1073741824
def CDivN (i j : Int) : Prop := j ≠ 0 ∧ j.natAbs < 1073741824
def CPow (i j : Int) : Prop := 0 ≤ j ∧ j ≤ 1000000 ∧ i.natAbs < 2 ^ 64
def CMul (i j : Int) : Prop := (-(2 ^ 64) < i ∧ i < 2 ^ 64) ∨ (-(2 ^ 64) < j ∧ j < 2 ^ 64)
theorem op_add : OpR X (binaryOp .Add) (rI0 fun i j => .int (i + j)) := opI0 fun _ _ _ _ _ _ _ q => add_int q
theorem op_sub : OpR X (binaryOp .Sub) (rI0 fun i j => .int (i - j)) := opI0 fun _ _ _ _ _ _ _ q => sub_int q
/-- % by a positive divisor of any size -/
theorem op_mod : OpR X (binaryOp .Mod) (rI (fun _ j => 0 < j) fun i j => .int (i % j)) := opI fun i j _ _ _ _ _ hc q => by
  have h1 : (0 : Int) < j := hc
  exact mod_int' (by omega) (by rw [Int.fmod_eq_emod_of_nonneg i (by omega)]; exact q)
theorem unI {f : Value → Sem Value} {g : Int → Int}
    (rule : ∀ (i : Int) (t : Tok) (s : Shared) (Q : Value → Shared → Prop) (E : Value → Shared → Prop), Q (.int (g i) s.toks) { s with toks := s.toks + 1 } → wpAny (model X.prog X.w) X.A (f (.int i t)) Q E s) :
    UnR X f (rU fun i => .int (g i)) := by
  intro pins s σ H x v Q I rx h
  obtain ⟨i, rfl, q⟩ := h
  obtain ⟨t, rfl⟩ := rx
  exact rule i t s _ _ ⟨.int (g i), H, I.tok _, ⟨_, rfl⟩, q⟩
theorem un_neg : UnR X (unaryOp .USub) (rU fun i => .int (-i)) := unI fun _ _ _ _ _ q => neg_int q
/-! ### bools among ints: n += (a < b) -/
end

/-! ### comparisons -/
/-- the scalars that == tells apart as data does -/
def scal : V → V → Bool
  | .non, .non => true | .non, .int _ => true | .int _, .non => true | .non, .bl _ => true | .bl _, .non => true | .non, .str _ => true | .str _, .non => true
  | .int _, .int _ => true | .bl _, .bl _ => true | .str _, .str _ => true | .byt _, .byt _ => true
  | .int _, .str _ => true | .str _, .int _ => true | .bl _, .str _ => true | .str _, .bl _ => true
  | _, _ => false
def rEq : R2 := fun x y H Q => scal x y = true ∧ Q (.bl (decide (x = y))) H
def rNe : R2 := fun x y H Q => scal x y = true ∧ Q (.bl (!decide (x = y))) H

theorem dec_int {i j : Int} : decide (V.int i = V.int j) = (i == j) := by
  rw [Bool.eq_iff_iff]
  simp
theorem dec_bl {i j : Bool} : decide (V.bl i = V.bl j) = (i == j) := by
  rw [Bool.eq_iff_iff]
  simp
theorem dec_str {i j : Str} : decide (V.str i = V.str j) = (i == j) := by
  rw [Bool.eq_iff_iff]
  simp
theorem dec_byt {i j : Array UInt8} : decide (V.byt i = V.byt j) = (i.toList == j.toList) := by
  rw [Bool.eq_iff_iff]
  cases i
  cases j
  simp

section
variable {X : Cx} {a b c : Expr} {ta tb tc : TE} {pos : Pos}
theorem fin_bl {pins : List (Addr × Obj)} {σ : St} {H : Hp} {s : Shared} {Q : VK} {k k' : Bool} (I : Inv X pins σ H s) (q : Q (.bl k) H) (e : k = k') : EP X pins σ Q (.bool k') s := by
  subst e
  exact ⟨.bl k, H, I, rfl, q⟩
theorem op_eq : OpR X (compareOp .Eq) rEq := by
  intro pins s σ H x y v u Q I rx ry h
  obtain ⟨hs, q⟩ := h
  cases x with
  | non =>
    cases rx
    cases y with
    | non => cases ry; exact PySem.EqNone.eq_none_none (fin_bl I q (by simp))
    | bl j => cases ry; exact PySem.EqNone.eq_none_bool (fin_bl I q (by simp))
    | int j => obtain ⟨t', rfl⟩ := ry; exact PySem.EqNone.eq_none_int (fin_bl I q (by simp))
    | str j => obtain ⟨t', rfl⟩ := ry; exact PySem.EqNone.eq_none_str (fin_bl I q (by simp))
    | _ => exact absurd (show false = true from hs) Bool.false_ne_true
  | bl i =>
    cases rx
    cases y with
    | non => cases ry; exact PySem.EqNone.eq_bool_none (fin_bl I q (by simp))
    | bl j => cases ry; exact eq_bool (fin_bl I q dec_bl)
    | str j => obtain ⟨t', rfl⟩ := ry; exact PySem.EqMixed.eq_bool_str (fin_bl I q (by simp))
    | _ => exact absurd (show false = true from hs) Bool.false_ne_true
  | int i =>
    obtain ⟨t, rfl⟩ := rx
    cases y with
    | non => cases ry; exact PySem.EqNone.eq_int_none (fin_bl I q (by simp))
    | int j => obtain ⟨t', rfl⟩ := ry; exact eq_int (fin_bl I q dec_int)
    | str j => obtain ⟨t', rfl⟩ := ry; exact PySem.EqMixed.eq_int_str (fin_bl I q (by simp))
    | _ => exact absurd (show false = true from hs) Bool.false_ne_true
  | str i =>
    obtain ⟨t, rfl⟩ := rx
    cases y with
    | non => cases ry; exact PySem.EqNone.eq_str_none (fin_bl I q (by simp))
    | bl j => cases ry; exact PySem.EqMixed.eq_str_bool (fin_bl I q (by simp))
    | int j => obtain ⟨t', rfl⟩ := ry; exact PySem.EqMixed.eq_str_int (fin_bl I q (by simp))
    | str j => obtain ⟨t', rfl⟩ := ry; exact eq_str (fin_bl I q dec_str)
    | _ => exact absurd (show false = true from hs) Bool.false_ne_true
  | byt i =>
    obtain ⟨t, rfl⟩ := rx
    cases y with
    | byt j => obtain ⟨t', rfl⟩ := ry; exact PySem.W.eq_bytes (fin_bl I q dec_byt)
    | _ => exact absurd (show false = true from hs) Bool.false_ne_true
  | _ => cases y <;> exact absurd (show false = true from hs) Bool.false_ne_true
theorem op_ne : OpR X (compareOp .NotEq) rNe := by
  intro pins s σ H x y v u Q I rx ry h
  obtain ⟨hs, q⟩ := h
  cases x with
  | non =>
    cases rx
    cases y with
    | non => cases ry; exact PySem.EqNone.ne_none_none (fin_bl I q (by simp))
    | bl j => cases ry; exact PySem.EqNone.ne_none_bool (fin_bl I q (by simp))
    | int j => obtain ⟨t', rfl⟩ := ry; exact PySem.EqNone.ne_none_int (fin_bl I q (by simp))
    | str j => obtain ⟨t', rfl⟩ := ry; exact PySem.EqNone.ne_none_str (fin_bl I q (by simp))
    | _ => exact absurd (show false = true from hs) Bool.false_ne_true
  | bl i =>
    cases rx
    cases y with
    | non => cases ry; exact PySem.EqNone.ne_bool_none (fin_bl I q (by simp))
    | bl j => cases ry; exact ne_bool (fin_bl I q (congrArg not dec_bl))
    | str j => obtain ⟨t', rfl⟩ := ry; exact PySem.EqMixed.ne_bool_str (fin_bl I q (by simp))
    | _ => exact absurd (show false = true from hs) Bool.false_ne_true
  | int i =>
    obtain ⟨t, rfl⟩ := rx
    cases y with
    | non => cases ry; exact PySem.EqNone.ne_int_none (fin_bl I q (by simp))
    | int j => obtain ⟨t', rfl⟩ := ry; exact ne_int (fin_bl I q (congrArg not dec_int))
    | str j => obtain ⟨t', rfl⟩ := ry; exact PySem.EqMixed.ne_int_str (fin_bl I q (by simp))
    | _ => exact absurd (show false = true from hs) Bool.false_ne_true
  | str i =>
    obtain ⟨t, rfl⟩ := rx
    cases y with
    | non => cases ry; exact PySem.EqNone.ne_str_none (fin_bl I q (by simp))
    | bl j => cases ry; exact PySem.EqMixed.ne_str_bool (fin_bl I q (by simp))
    | int j => obtain ⟨t', rfl⟩ := ry; exact PySem.EqMixed.ne_str_int (fin_bl I q (by simp))
    | str j => obtain ⟨t', rfl⟩ := ry; exact ne_str (fin_bl I q (congrArg not dec_str))
    | _ => exact absurd (show false = true from hs) Bool.false_ne_true
  | byt i =>
    obtain ⟨t, rfl⟩ := rx
    cases y with
    | byt j => obtain ⟨t', rfl⟩ := ry; exact PySem.W.ne_bytes (fin_bl I q (congrArg not dec_byt))
    | _ => exact absurd (show false = true from hs) Bool.false_ne_true
  | _ => cases y <;> exact absurd (show false = true from hs) Bool.false_ne_true

theorem op_lt : OpR X (compareOp .Lt) (rI0 fun i j => .bl (decide (i < j))) := opB0 fun _ _ _ _ _ _ _ q => lt_int q
theorem op_le : OpR X (compareOp .LtE) (rI0 fun i j => .bl (decide (i ≤ j))) := opB0 fun _ _ _ _ _ _ _ q => le_int q
theorem op_gt : OpR X (compareOp .Gt) (rI0 fun i j => .bl (decide (j < i))) := opB0 fun _ _ _ _ _ _ _ q => gt_int q
theorem op_ge : OpR X (compareOp .GtE) (rI0 fun i j => .bl (decide (j ≤ i))) := opB0 fun _ _ _ _ _ _ _ q => ge_int q
theorem op_notN : OpR X (compareOp .IsNot) (fun x y H Q => y = .non ∧ Q (.bl (!decide (x = .non))) H) := by
  intro pins s σ H x y v u Q I rx ry h
  obtain ⟨rfl, q⟩ := h
  cases ry
  refine isnot_none_gen (fin_bl I q ?_)
  cases x <;> first
    | (cases rx; rfl)
    | (obtain ⟨t, rfl⟩ := rx; rfl)

/-- is, is not of two objects that are tracked lists or instances -/
def isObj : HO → Bool
  | .lst _ => true
  | .ins _ _ _ => true
  | _ => false
theorem nomark (b : Expr) {op : CmpOp} (h : op ≠ .In := by decide) (h2 : op ≠ .NotIn := by decide) : behindInMarks op b = false := by
  have e1 : (op == CmpOp.In) = false := by cases op <;> first | rfl | exact absurd rfl h
  have e2 : (op == CmpOp.NotIn) = false := by cases op <;> first | rfl | exact absurd rfl h2
  cases b <;> simp [behindInMarks, e1, e2]
/-- a comparison as a value; hm: nomark b, or (for in, not in) by with_unfolding_all rfl -/
theorem pe_cmpR {op : CmpOp} {r : R2} (ho : OpR X (compareOp op) r) (ha : PE X a ta) (hb : PE X b tb) (hm : behindInMarks op b = false) : PE X (.Compare a [op] [b] pos) (tOp r ta tb) := by
  intro pins s σ H Q I h
  exact wpAny_Compare1 (binT ha hb I h fun v u s2 x y H2 I2 rx ry q => ho pins s2 σ H2 x y v u Q I2 rx ry q) hm
/-- a reading of a value as a test -/
def tTest (t : TE) : TT := fun σ H Q => t σ H fun x H' => ∃ k, x = .bl k ∧ Q k H'
theorem pt_cmpR {op : CmpOp} {r : R2} (ho : OpR X (compareOp op) r) (ha : PE X a ta) (hb : PE X b tb) (hm : behindInMarks op b = false) : PT X (.Compare a [op] [b] pos) (tTest (tOp r ta tb)) := by
  intro pins s σ H Q I h
  refine wpAny_isTrue_Compare1 (thn (ha pins s σ H _ I h) fun v s1 ⟨x, H1, I1, r1, q1⟩ => thn (hb pins s1 σ H1 _ I1 q1) fun u s2 ⟨y, H2, I2, r2, q2⟩ =>
    thn (ho pins s2 σ H2 x y v u _ I2 r1 r2 q2) fun c s3 ⟨z, H3, I3, r3, k, e, q3⟩ => ?_) hm
  subst e
  cases r3
  exact wpAny_truthy_bool ⟨H3, I3, q3⟩
/-- a op1 b op2 c -/
def tChain (r r' : R2) (ta tb tc : TE) : TE := fun σ H Q => ta σ H fun x H1 => tb σ H1 fun y H2 => r x y H2 fun z H3 => ∃ k, z = .bl k ∧
  (if k = true then tc σ H3 fun w' H4 => r' y w' H4 Q else Q (.bl false) H3)
theorem pt_chain {op op' : CmpOp} {r r' : R2} (ho : OpR X (compareOp op) r) (ho' : OpR X (compareOp op') r') (ha : PE X a ta) (hb : PE X b tb) (hc : PE X c tc)
    (hm : lastMarks [op, op'] [b, c] = false := by with_unfolding_all rfl) : PT X (.Compare a [op, op'] [b, c] pos) (tTest (tChain r r' ta tb tc)) := by
  intro pins s σ H Q I h
  refine isTrue_chain (thn (ha pins s σ H _ I h) fun v s1 ⟨x, H1, I1, r1, q1⟩ => test_link (thn (hb pins s1 σ H1 _ I1 q1) fun u s2 ⟨y, H2, I2, r2, q2⟩ =>
    thn (ho pins s2 σ H2 x y v u _ I2 r1 r2 q2) fun d s3 ⟨z, H3, I3, r3, k, e, q3⟩ => ?_)) hm
  subst e
  cases r3
  refine wpAny_truthy_bool ?_
  cases k with
  | false =>
    obtain ⟨k', e', q'⟩ := q3
    cases e'
    exact ite_ff ⟨H3, I3, q'⟩
  | true =>
    refine ite_tt (test_last (thn (hc pins s3 σ H3 _ I3 q3) fun w' s4 ⟨z', H4, I4, r4, q4⟩ => thn (ho' pins s4 σ H4 y z' u w' _ I4 r2 r4 q4) fun d' s5 ⟨z2, H5, I5, r5, k2, e2, q5⟩ => ?_))
    subst e2
    cases r5
    exact wpAny_truthy_bool ⟨H5, I5, q5⟩

/-! ### truth -/
/-- a value's truth by the abstract heap -/
def TruV (K : PySem.W.Frag) (x : V) (H : Hp) (k : Bool) : Prop :=
  match x with
  | .non => k = false
  | .bl b => k = b
  | .int i => k = (i != 0)
  | .str y => y.length ≤ sizeLine ∧ k = ((y.length : Int) != 0)
  | .byt y => y.size ≤ sizeLine ∧ k = ((y.size : Int) != 0)
  | .ref p => (∃ xs, SqL K H p xs ∧ k = !xs.isEmpty) ∨ (∃ xs, SqT K H p xs ∧ k = !xs.isEmpty) ∨ ∃ kvs, H p = some (.dK kvs) ∧ k = !kvs.isEmpty
  | _ => False
theorem line63 : (sizeLine : Nat) < 2 ^ 63 := by rw [sizeLine_eq]; decide
/-! ### strs and bytes -/
def PlainIxT (b : Expr) : Prop := ∀ o i, subscripted b false o i = operate [o, i] (getItem o i)
/-! ### scalar builtins, by CallR -/
theorem vals1 {x : V} {us : List Value} (r : Vals [x] us) : ∃ u, us = [u] ∧ RelV x u := by
  cases r with
  | cons r1 r2 => cases r2; exact ⟨_, rfl, r1⟩
theorem vals2 {x y : V} {us : List Value} (r : Vals [x, y] us) : ∃ u w', us = [u, w'] ∧ RelV x u ∧ RelV y w' := by
  cases r with
  | cons r1 r2 =>
    cases r2 with
    | cons r3 r4 => cases r4; exact ⟨_, _, rfl, r1, r3⟩
theorem call_abs : CallR X (.builtin "abs") (fun xs H Q => ∃ i, xs = [.int i] ∧ Q (.int (if i < 0 then -i else i)) H) := by
  intro pins s σ H xs us Q I r h
  obtain ⟨i, rfl, q⟩ := h
  obtain ⟨u, rfl, t, rfl⟩ := vals1 r
  exact call_abs_int fun u tk => ⟨.int (if i < 0 then -i else i), H, I.tok _, ⟨_, rfl⟩, q⟩
/-- len of a str, a bytes, a list, a tuple -/
def LenV (K : PySem.W.Frag) (x : V) (H : Hp) (n : Nat) : Prop :=
  match x with
  | .str y => y.length ≤ sizeLine ∧ n = y.length
  | .byt y => y.size ≤ sizeLine ∧ n = y.size
  | .ref p => (∃ xs, SqL K H p xs ∧ n = xs.length) ∨ ∃ xs, SqT K H p xs ∧ n = xs.length
  | _ => False
end
end L2

namespace L2
open PySem PySem.Spec PyProof.Rows

/-! ### an instance, its attributes a map -/
structure ObjM (h : Heap) (x dx C : Addr) (mA : Str → Option Value) : Prop where
  obj : h.get? x = some (PySem.W.instObj C dx)
  ns : h.Ns1 dx mA
  ne : dx ≠ x

section
variable {prog : Program} {w : World} {A : Around} {E : Value → Shared → Prop} {s : Shared} {K : PySem.W.Frag} {x dx C f : Addr} {mA : Str → Option Value} {name : Str} {v : Value}

end

/-! ### the attributes as a list of pairs -/
def putF (f : Str) (v : V) : List (Str × V) → List (Str × V)
  | [] => [(f, v)]
  | (g, x) :: r => if g = f then (g, v) :: r else (g, x) :: putF f v r
section
variable {P : Program} {w : World} {H H' : Hp} {h h' : Heap} {a C dx : Addr} {fs fs' : List (Str × V)}
end

/-! ### what of the text a class must have -/
structure Cls (K : PySem.W.Frag) (C : Addr) : Prop where
  pg : PySem.W.plainGet K C Str.empty = true
  hd : PySem.W.hasDictIn K C = true
  po : PySem.W.plainOver K C = true
  sa : PySem.W.findIn K (.ref C) "__setattr__" = some (some (.builtin "object.__setattr__"))
/-- no class of it has the name -/
def NoAttr (K : PySem.W.Frag) (C : Addr) (f : Str) : Prop := PySem.W.findIn K (.ref C) f = some none
/-- a constant of the class -/
structure Con (K : PySem.W.Frag) (C : Addr) (f : Str) (v : V) (u : Value) : Prop where
  at_ : PySem.W.findIn K (.ref C) f = some (some u)
  rel : RelV v u
  get : PySem.W.specialIn K u "__get__" = some none
  cp : PySem.W.copiedNames.contains f = false
/-- a method: a plain def of the class or of one above it -/
structure Meth (K : PySem.W.Frag) (C : Addr) (m : Str) (f : Addr) : Prop where
  at_ : PySem.W.findIn K (.ref C) m = some (some (.ref f))
  fn : PySem.W.isFn K (.ref f) = true
  kp : PySem.W.keepIn K (.ref f) = true

section
variable {X : Cx} {pins : List (Addr × Obj)} {σ : St} {H : Hp} {s : Shared} {a C dx : Addr} {fs : List (Str × V)} {f : Str} {v : V} {A : Around} {E : Value → Shared → Prop}

end

/-! ### readings and rules -/
/-- e.f, an attribute of the instance -/
def tFld (K : PySem.W.Frag) (ta : TE) (f : Str) : TE := fun σ H Q => ta σ H fun x H1 => ∃ a C dx fs v, x = .ref a ∧ H1 a = some (.ins C dx fs) ∧ Cls K C ∧ NoAttr K C f ∧ fs.lookup f = some v ∧ Q v H1
/-- e.f, a constant of the class -/
def tCon (K : PySem.W.Frag) (ta : TE) (f : Str) : TE := fun σ H Q => ta σ H fun x H1 => ∃ a C dx fs v u, x = .ref a ∧ H1 a = some (.ins C dx fs) ∧ Cls K C ∧ Con K C f v u ∧ fs.lookup f = none ∧ Q v H1
/-- e.f = value -/
def sFld (K : PySem.W.Frag) (ta tv : TE) (f : Str) : TS := fun D σ H => tv σ H fun y H1 => ta σ H1 fun x H2 => ∃ a C dx fs, x = .ref a ∧ H2 a = some (.ins C dx fs) ∧ Cls K C ∧ NoAttr K C f ∧ fs.length < 1000 ∧
  D.nx σ (upd H2 a (.ins C dx (putF f y fs)))
/-- an augmented operator on two values -/
def InOp (X : Cx) (op : Operator) (rd : V → V → Hp → VK → Prop) : Prop :=
  ∀ (pins : List (Addr × Obj)) (s : Shared) (σ : St) (H : Hp) (x y : V) (u v : Value) (Q : VK), Inv X pins σ H s → RelV x u → RelV y v → rd x y H Q → wpAny (model X.prog X.w) X.A (inplaceOp op u v) (EP X pins σ Q) X.xe s
/-- e.f op= value -/
def sFldAug (K : PySem.W.Frag) (ta tv : TE) (rd : V → V → Hp → VK → Prop) (f : Str) : TS := fun D σ H => ta σ H fun x H1 => ∃ a C dx fs v, x = .ref a ∧ H1 a = some (.ins C dx fs) ∧ Cls K C ∧ NoAttr K C f ∧ fs.lookup f = some v ∧
  tv σ H1 fun y H2 => rd v y H2 fun z H3 => ∃ dx' fs', H3 a = some (.ins C dx' fs') ∧ fs'.length < 1000 ∧ D.nx σ (upd H3 a (.ins C dx' (putF f z fs')))

section
variable {X : Cx} {o e value : Expr} {f : Str} {pos pos' tpos : Pos} {ta tv : TE}
def rAdd : V → V → Hp → VK → Prop := fun x y H Q => ∃ i j, x = .int i ∧ y = .int j ∧ Q (.int (i + j)) H
def rSub : V → V → Hp → VK → Prop := fun x y H Q => ∃ i j, x = .int i ∧ y = .int j ∧ Q (.int (i - j)) H
end

/-! ### isinstance -/
section
variable {X : Cx} {pins : List (Addr × Obj)} {σ : St} {H : Hp} {s : Shared} {A : Around} {E : Value → Shared → Prop} {Q : Value → Shared → Prop} {c : Value} {b : Bool}
/-- the type of a value, as the fragment's deciders take it; for an instance its class -/
inductive TyOf (K : PySem.W.Frag) (H : Hp) : V → Value → Prop where
  | non : TyOf K H .non (.type "NoneType")
  | bl (x : Bool) : TyOf K H (.bl x) (.type "bool")
  | int (i : Int) : TyOf K H (.int i) (.type "int")
  | str (x : Str) : TyOf K H (.str x) (.type "str")
  | flt (x : UInt64) : TyOf K H (.flt x) (.type "float")
  | lst {a : Addr} {xs : List V} (e : H a = some (.lst xs)) : TyOf K H (.ref a) (.type "list")
  | frz {a : Addr} {o : Obj} {xs : List V} (e : H a = some (.frz o (.lst xs))) : TyOf K H (.ref a) (.type "list")
  | tup {a : Addr} {xs : List V} (e : H a = some (.tup xs)) : TyOf K H (.ref a) (.type "tuple")
  | dK {a : Addr} {kvs : List (Key × V)} (e : H a = some (.dK kvs)) : TyOf K H (.ref a) (.type "dict")
  | dT {a : Addr} {kvs : List (List Key × V)} (e : H a = some (.dT kvs)) : TyOf K H (.ref a) (.type "dict")
  | ins {a C dx : Addr} {fs : List (Str × V)} (e : H a = some (.ins C dx fs)) (cl : Cls K C) (ha : PySem.W.findIn K (.ref C) "__class__" = some (some (.builtin "object.__class__")))
      (hn : PySem.W.specialIn K (.builtin "object.__class__") "__get__" = some (some (.builtin "getset_descriptor.__get__"))) (htk : PySem.W.takesIn K (.builtin "object.__class__") = some true)
      (hm : PySem.W.mroIn K C (.type "object") = some true) : TyOf K H (.ref a) (.ref C)
end
end L2

namespace L2
open PySem PySem.Spec PyProof.Rows

/-! ### room -/
structure Room (k : Nat) (A : Around) : Prop where
  hd : A.handled = none
  dp : A.depth + 3 * k + 5 < recursionLimit
  un : A.units + 16 * k + 200 < cLine
  gd : A.guards = some []
theorem Room.mono {j k : Nat} {A : Around} (r : Room k A) (h : j ≤ k) : Room j A := ⟨r.hd, by have := r.dp; omega, by have := r.un; omega, r.gd⟩
theorem Room.deeper {k : Nat} {A : Around} (r : Room (k + 1) A) (env : Env) : Room k (A.deeper env) :=
  ⟨r.hd, by have := r.dp; show A.depth + 1 + 3 * k + 5 < _; omega, by have := r.un; show A.units + 3 + 16 * k + 200 < _; omega, r.gd⟩
theorem make_depth {A : Around} {C : Addr} {us : List Value} {kw : List (Str × Value)} : (A.under (.builtin "type.__call__" ⟨.ref C :: us, kw⟩)).depth = A.depth + 1 := by
  first | rfl | simp [Around.under, Code.weight, Code.isCreation, Code.isGuard, Code.isCaller, Code.frames, Code.isFrame, guardIds]
theorem make_units {A : Around} {C : Addr} {us : List Value} {kw : List (Str × Value)} : (A.under (.builtin "type.__call__" ⟨.ref C :: us, kw⟩)).units = A.units + 1 := by
  first | rfl | simp [Around.under, Code.cUnits, Code.frames, Code.isFrame]
theorem make_guards {A : Around} {C : Addr} {us : List Value} {kw : List (Str × Value)} : (A.under (.builtin "type.__call__" ⟨.ref C :: us, kw⟩)).guards = A.guards := by
  first | rfl | (cases h : A.guards <;> simp [Around.under, Code.guards, Code.isGuard, guardIds, pushGuards, h])
theorem Room.make {k : Nat} {A : Around} (r : Room (k + 1) A) (C : Addr) (us : List Value) (kw : List (Str × Value)) : Room k (A.under (.builtin "type.__call__" ⟨.ref C :: us, kw⟩)) :=
  ⟨r.hd, by have := r.dp; rw [make_depth]; omega, by have := r.un; rw [make_units]; omega, by rw [make_guards]; exact r.gd⟩
theorem Room.depth {k : Nat} {A : Around} (r : Room k A) : A.depth < recursionLimit := by have := r.dp; omega
theorem Room.units {k : Nat} {A : Around} (r : Room k A) : A.units + 64 < cLine := by have := r.un; omega
/-! ### argument lists and displays -/
def tNil : TA := fun _ H Q => Q [] H
def tCons (ta : TE) (tr : TA) : TA := fun σ H Q => ta σ H fun x H1 => tr σ H1 fun xs H2 => Q (x :: xs) H2
section
variable {X : Cx} {e : Expr} {es : List Expr} {te : TE} {t : TA} {pos : Pos}
theorem pa_nil : PA X [] tNil := fun _ _ _ _ H Q I h => Calls.spliced_nil ⟨[], H, I, .nil, h⟩
theorem pa_cons (ha : PE X e te) (hr : PA X es t) (hs : starEach (e :: es) X.env = (false, eval e X.env) :: starEach es X.env := by rfl) : PA X (e :: es) (tCons te t) := by
  intro pos pins s σ H Q I h
  rw [hs]
  show wpAny _ _ (spliced ((false, eval e X.env) :: backTo pos (starEach es X.env))) _ _ s
  refine Calls.spliced_cons (thn (ha pins s σ H _ I h) fun u s1 ⟨x, H1, I1, r1, q1⟩ => ?_)
  exact thn (hr pos pins s1 σ H1 _ I1 q1) fun us s2 ⟨xs, H2, I2, r2, q2⟩ => ⟨x :: xs, H2, I2, .cons r1 r2, q2⟩

/-- a tuple, a list of written items -/
def tTup (t : TA) : TE := fun σ H Q => t σ H fun xs H1 => xs.length ≤ sizeLine ∧ ∀ p, H1 p = none → Q (.ref p) (upd H1 p (.tup xs))
def tLst (t : TA) : TE := fun σ H Q => t σ H fun xs H1 => xs.length ≤ sizeLine ∧ ∀ p, H1 p = none → Q (.ref p) (upd H1 p (.lst xs))
theorem pe_tup {x1} (h : PA X es t) : PE X (.Tuple es x1 pos) (tTup t) := by
  intro pins s σ H Q I hq
  refine wpAny_Tuple_spliced (thn (h pos pins s σ H _ I hq) fun us s1 ⟨xs, H1, I1, r, z, q⟩ => ⟨by rw [← r.length]; exact z, ?_⟩)
  have hf : H1 s1.heap.objs.size = none := I1.hok.fresh (Nat.le_refl _)
  refine ⟨.ref s1.heap.objs.size, upd H1 s1.heap.objs.size (.tup xs), I1.laid (t' := s1.toks) (fun b u e => Heap.get?_push_of_some _ e) (Nat.le_refl _) ?_, rfl, q _ hf⟩
  exact ⟨⟨z, _, Heap.get?_push_size _ rfl, rfl⟩, us, r, ⟨_, Heap.get?_push_size _ rfl, rfl, _, rfl⟩⟩
theorem pe_lst (h : PA X es t) : PE X (.List es pos) (tLst t) := by
  intro pins s σ H Q I hq
  refine wpAny_List_spliced (thn (h pos pins s σ H _ I hq) fun us s1 ⟨xs, H1, I1, r, z, q⟩ => ⟨by rw [← r.length]; exact z, ?_⟩)
  have hf : H1 s1.heap.objs.size = none := I1.hok.fresh (Nat.le_refl _)
  refine ⟨.ref s1.heap.objs.size, upd H1 s1.heap.objs.size (.lst xs), I1.laid (t' := s1.toks) (fun b u e => Heap.get?_push_of_some _ e) (Nat.le_refl _) ?_, rfl, q _ hf⟩
  exact ⟨z, us, 0, r, Heap.get?_push_size _ rfl⟩
end

/-! ### what a def promises -/
/-- a def's promise: the bound arguments in the parameters' order, the heap, the wanted end, the wanted exception -/
abbrev Sp := List V → Hp → VK → XK → Prop
/-- how an exception lies behind a call (file 08 gives it): the callers' frames, abstract heap and state ahead of the call, the wish, the exception, the state -/
abbrev CXT := List Env → Hp → Shared → XK → Value → Shared → Prop

/-- the state at a call -/
structure Env0 (P : Program) (w : World) (K : PySem.W.Frag) (mg : Str → Option Value) (base : Heap) (A : Around) (outer : List Env) (s : Shared) (H : Hp) : Prop where
  frames : A.frames = some outer
  mod : Mod K mg base
  bs : ∀ b o, base.get? b = some o → s.heap.get? b = some o ∧ H b = none
  bsz : base.objs.size ≤ s.heap.objs.size
  funs : s.heap.FunFrames base outer
  frf : ∀ b ∈ frs outer, H b = none
  hok : HOk P w H s.heap
  bare : AllBare s.gens
/-- a call's end -/
def CE (outer : List Env) (P : Program) (w : World) (H : Hp) (s : Shared) (Q : VK) (u : Value) (s' : Shared) : Prop :=
  ∃ v H', s'.os = s.os ∧ AllBare s'.gens ∧ Un (frs outer) [] H H' s.heap s'.heap ∧ HOk P w H' s'.heap ∧ RelV v u ∧ Q v H'
def CR (CX : CXT) (outer : List Env) (P : Program) (w : World) (H : Hp) (s : Shared) (Q : VK) (E : XK) (r : Result) (s' : Shared) : Prop :=
  match r with
  | .ok (.ret u) => CE outer P w H s Q u s'
  | .ok _ => False
  | .error e => CX outer H s E e s'
structure FnOk (P : Program) (w : World) (K : PySem.W.Frag) (mg : Str → Option Value) (base : Heap) (CX : CXT) (k : Nat) (f : Addr) (fd : FuncData) (ps : List Str) (sp : Sp) : Prop where
  len : ∀ vs H Q E, sp vs H Q E → vs.length = ps.length
  run : ∀ (A : Around) (outer : List Env) (s : Shared) (H : Hp) (args : Args) (us : List Value) (vs : List V) (Q : VK) (E : XK), Room k A → Env0 P w K mg base A outer s H → BindsTo s fd args (ps.zip us) → Vals vs us → sp vs H Q E →
    codeAny (model P w) A (.call (.ref f) args) (CR CX outer P w H s Q E) s
theorem FnOk.mono {P : Program} {w : World} {K : PySem.W.Frag} {mg : Str → Option Value} {base : Heap} {CX : CXT} {j k : Nat} {f : Addr} {fd : FuncData} {ps : List Str} {sp : Sp} (F : FnOk P w K mg base CX j f fd ps sp) (h : j ≤ k) :
    FnOk P w K mg base CX k f fd ps sp := ⟨F.len, fun A outer s H args us vs Q E hr => F.run A outer s H args us vs Q E (hr.mono h)⟩
theorem Env0.make {P : Program} {w : World} {K : PySem.W.Frag} {mg : Str → Option Value} {base : Heap} {A : Around} {outer : List Env} {s : Shared} {H : Hp} (e : Env0 P w K mg base A outer s H) (C : Addr) (us : List Value) (kw : List (Str × Value)) :
    Env0 P w K mg base (A.under (.builtin "type.__call__" ⟨.ref C :: us, kw⟩)) outer s H := ⟨by first | exact e.frames | (simpa [Around.under, Code.envs, Code.isFrame, pushEnvs] using e.frames), e.mod, e.bs, e.bsz, e.funs, e.frf, e.hok, e.bare⟩
section
variable {X : Cx} {pins : List (Addr × Obj)} {σ : St} {H : Hp} {s s' : Shared}
/-- from a body: what a callee wants -/
theorem Inv.env0 (I : Inv X pins σ H s) : Env0 X.prog X.w X.K X.mg X.base X.A X.stack s H :=
  ⟨I.ok.frames, I.ok.mod, I.bs, Nat.le_trans I.ok.bsz I.sz, I.stack, I.stkFree, I.hok, I.bare⟩
/-- behind a call -/
theorem Inv.after {Q : VK} {u : Value} (I : Inv X pins σ H s) (h : CE X.stack X.prog X.w H s Q u s') : EP X pins σ Q u s' := by
  obtain ⟨v, H', os, bare, un, hok, r, q⟩ := h
  obtain ⟨hh, g, d, t, os'⟩ := s'
  obtain rfl : os' = s.os := os
  exact ⟨v, H', I.call (h' := hh) (g' := g) (d' := d) (t' := t) (ch := []) un hok bare (fun b z => absurd z (by simp)), r, q⟩
end

/-! ### calls -/
/-- f(..): the written arguments, then the defaults dvs; E: what is wanted of an exception -/
def tCall (sp : Sp) (dvs : List V) (E : XK) (t : TA) : TE := fun σ H Q => t σ H fun vs H1 => sp (vs ++ dvs) H1 Q E
/-- o.m(..) of an instance of the class at C -/
def tMeth (C : Addr) (m : Str) (sp : Sp) (dvs : List V) (E : XK) (ta : TE) (t : TA) : TE := fun σ H Q => ta σ H fun x H1 => ∃ a dx fs, x = .ref a ∧ H1 a = some (.ins C dx fs) ∧ fs.lookup m = none ∧
  t σ H1 fun vs H2 => sp (x :: (vs ++ dvs)) H2 Q E
/-- C(..): a new instance and its dict, then __init__ -/
def tMake (C : Addr) (sp : Sp) (dvs : List V) (E : XK) (t : TA) : TE := fun σ H Q => t σ H fun vs H1 => ∀ x dx, H1 x = none → H1 dx = none → dx ≠ x →
  sp (.ref x :: (vs ++ dvs)) (upd (upd H1 dx (.own x)) x (.ins C dx [])) (fun v H2 => v = .non ∧ Q (.ref x) H2) E

/-- how the parameters are bound: us the positional arguments, kw the keywords' values by name, ds the defaults that fill up -/
def Binds (K : PySem.W.Frag) (fd : FuncData) (ps : List Str) (ds : List Value) : Prop :=
  ∀ (s : Shared) (us : List Value), K.In s.heap → (us ++ ds).length = ps.length → BindsTo s fd ⟨us, []⟩ (ps.zip (us ++ ds))
/-- every parameter is given -/
theorem Binds.all {K : PySem.W.Frag} {fd : FuncData} {ps : List Str} (h : ∀ us : List Value, us.length = ps.length → bindArgs fd ⟨us, []⟩ = pure (ps.zip us)) : Binds K fd ps [] := fun s us _ hl => by
  rw [List.append_nil] at hl ⊢
  exact .of_eq (h us hl)

/-- an exception of a callee reaches what this body wants of exceptions -/
def Passes (CX : CXT) (X : Cx) (E : XK) : Prop := ∀ (pins : List (Addr × Obj)) (σ : St) (H : Hp) (s : Shared) (e : Value) (s' : Shared), Inv X pins σ H s → CX X.stack H s E e s' → X.xe e s'

section
variable {X : Cx} {CX : CXT} {k : Nat} {f C : Addr} {fd : FuncData} {ps : List Str} {sp : Sp} {dvs : List V} {ds : List Value} {E : XK} {x m : Str} {p pos apos : Pos} {e o : Expr} {es : List Expr} {ta : TE} {t : TA}

/-- the callee runs -/
theorem run_fn {pins : List (Addr × Obj)} {σ : St} {H : Hp} {s : Shared} {Q : VK} {us : List Value} {vs : List V} (F : FnOk X.prog X.w X.K X.mg X.base CX k f fd ps sp) (hr : Room k X.A) (hb : Binds X.K fd ps ds) (hd : Vals dvs ds) (hx : Passes CX X E)
    (I : Inv X pins σ H s) (r : Vals vs us) (h : sp (vs ++ dvs) H Q E) : wpAny (model X.prog X.w) X.A (call (.ref f) us) (EP X pins σ Q) X.xe s := by
  have r2 : Vals (vs ++ dvs) (us ++ ds) := r.append hd
  have hl : (us ++ ds).length = ps.length := by rw [← r2.length]; exact F.len _ _ _ _ h
  refine wpAny_call (codeAny_mono (F.run X.A X.stack s H ⟨us, []⟩ (us ++ ds) (vs ++ dvs) Q E hr I.env0 (hb s us I.kIn hl) r2 h) fun r s' hq => ?_)
  cases r with
  | error e => exact hx pins σ H s e s' I hq
  | ok fl =>
    cases fl with
    | ret u => exact I.after hq
    | next => exact False.elim hq
    | brk => exact False.elim hq
    | cont => exact False.elim hq

theorem pe_call (F : FnOk X.prog X.w X.K X.mg X.base CX k f fd ps sp) (hr : Room k X.A) (hg : Gl X x) (hm : X.mg x = some (.ref f)) (hk : PySem.W.keepIn X.K (.ref f) = true) (hb : Binds X.K fd ps ds) (hd : Vals dvs ds) (hx : Passes CX X E)
    (ha : PA X (e :: es) t) (hdb : (x == ("__debug__" : Str)) = false := by decide) (he : starEach (e :: es) X.env = (false, eval e X.env) :: starEach es X.env := by rfl) (hpl : (backTo pos (starEach es X.env)).any (·.1) = false := by rfl) :
    PE X (.Call (.Name x p) (e :: es) [] pos) (tCall sp dvs E t) := by
  intro pins s σ H Q I h
  refine wpAny_Call_Name_kw (ld_glob I hg hm ?_ hdb)
  refine PySem.W.callWith_K (h₀ := X.base) I.ok.mod.kin hk (thn (ha pos pins s σ H _ I h) fun us s1 ⟨vs, H1, I1, r, q⟩ => ⟨I1.kIn, ?_⟩) he hpl
  exact run_fn F hr hb hd hx I1 r q
/-- what a class must have to be made -/
structure Mk (K : PySem.W.Frag) (C f : Addr) : Prop where
  makes : PySem.W.makesIn K C = true
  init : PySem.W.findIn K (.ref C) "__init__" = some (some (.ref f))
  fn : PySem.W.isFn K (.ref f) = true
  kp : PySem.W.keepIn K (.ref C) = true

end

/-! ### keywords -/
/-- the values of the keywords, from the left -/
def PK (X : Cx) (kws : List Keyword) (t : TA) : Prop :=
  ∀ (pos : Pos) (pins : List (Addr × Obj)) (s : Shared) (σ : St) (H : Hp) (Q : List V → Hp → Prop), Inv X pins σ H s → t σ H Q → wpAny (model X.prog X.w) X.A (evalAll ((backToKw pos (keywordEach kws X.env)).map (·.2))) (AP X pins σ Q) X.xe s
section
variable {X : Cx} {CX : CXT} {k : Nat} {f C : Addr} {fd : FuncData} {ps ks : List Str} {sp : Sp} {E : XK} {x m : Str} {p pos apos kpos : Pos} {e o : Expr} {es : List Expr} {kws : List Keyword} {te ta : TE} {t tk : TA} {nm : Option Str}
/-- how a call with keywords binds: g puts the positional values us and the keywords' values ws (names ks) in the parameters' order, defaults among them -/
structure KBinds (K : PySem.W.Frag) (fd : FuncData) (ps ks : List Str) (g : List Value → List Value → List Value) (gV : List V → List V → List V) : Prop where
  to : ∀ (s : Shared) (us ws : List Value), K.In s.heap → (g us ws).length = ps.length → BindsTo s fd ⟨us, ks.zip ws⟩ (ps.zip (g us ws))
  rel : ∀ {vs : List V} {us : List Value} {zs : List V} {ws : List Value}, Vals vs us → Vals zs ws → Vals (gV vs zs) (g us ws)
def tCallK (sp : Sp) (gV : List V → List V → List V) (E : XK) (t tk : TA) : TE := fun σ H Q => t σ H fun vs H1 => tk σ H1 fun zs H2 => sp (gV vs zs) H2 Q E
variable {g : List Value → List Value → List Value} {gV : List V → List V → List V}
end

/-! ### a def's body keeps its promise -/
/-- names: the parameters first -/
structure FnScope (N P : List Str) (sc : Scope) : Prop where
  kind : sc.kind = .function
  co : sc.isCoroutine = false
  gen : sc.isGenerator = false
  nd : N.Nodup
  pre : N.take P.length = P
  par : ∀ x ∈ P, sc.names.lookup x = some .local ∨ sc.names.lookup x = some .cell
  nofree : ∀ y ∈ sc.names, y.2 ≠ .free

theorem bindL_out {kindOf : Str → Option NameKind} {x : Str} : ∀ {binds : List (Str × Value)} {m : Str → Option Value}, (∀ v, (x, v) ∉ binds) → bindL kindOf binds m x = m x
  | [], _, _ => rfl
  | (n, v) :: r, m, h => by
    unfold bindL
    rw [bindL_out fun w hw => h w (List.mem_cons_of_mem _ hw)]
    split
    · have : x ≠ n := by rintro rfl; exact h v List.mem_cons_self
      simp [this]
    · rfl
theorem bindC_out {kindOf : Str → Option NameKind} {x : Str} : ∀ {binds : List (Str × Value)} {m : Str → Option Value}, (∀ v, (x, v) ∉ binds) → bindC kindOf binds m x = m x
  | [], _, _ => rfl
  | (n, v) :: r, m, h => by
    unfold bindC
    rw [bindC_out fun w hw => h w (List.mem_cons_of_mem _ hw)]
    split
    · rfl
    · have : x ≠ n := by rintro rfl; exact h v List.mem_cons_self
      simp [this]
theorem bindL_get {kindOf : Str → Option NameKind} {x : Str} {v : Value} : ∀ {P : List Str} {vs : List Value} {i : Nat} {m : Str → Option Value}, P.Nodup → P[i]? = some x → vs[i]? = some v → kindOf x = some .local →
    bindL kindOf (P.zip vs) m x = some v
  | [], _, _, _, _, h, _, _ => by simp at h
  | _ :: _, [], _, _, _, _, h, _ => by simp at h
  | p :: P, w :: vs, 0, m, nd, h1, h2, hk => by
    simp at h1 h2; subst h1; subst h2
    show bindL kindOf ((p, w) :: P.zip vs) m p = _
    unfold bindL
    rw [bindL_out fun v hv => (List.nodup_cons.mp nd).1 (List.of_mem_zip hv).1, if_pos hk]
    simp
  | p :: P, w :: vs, i + 1, m, nd, h1, h2, hk => by
    show bindL kindOf ((p, w) :: P.zip vs) m x = _
    unfold bindL
    exact bindL_get (i := i) (List.nodup_cons.mp nd).2 (by simpa using h1) (by simpa using h2) hk
theorem bindC_get {kindOf : Str → Option NameKind} {x : Str} {v : Value} : ∀ {P : List Str} {vs : List Value} {i : Nat} {m : Str → Option Value}, P.Nodup → P[i]? = some x → vs[i]? = some v → kindOf x ≠ some .local →
    bindC kindOf (P.zip vs) m x = some v
  | [], _, _, _, _, h, _, _ => by simp at h
  | _ :: _, [], _, _, _, _, h, _ => by simp at h
  | p :: P, w :: vs, 0, m, nd, h1, h2, hk => by
    simp at h1 h2; subst h1; subst h2
    show bindC kindOf ((p, w) :: P.zip vs) m p = _
    unfold bindC
    rw [bindC_out fun v hv => (List.nodup_cons.mp nd).1 (List.of_mem_zip hv).1, if_neg hk]
    simp
  | p :: P, w :: vs, i + 1, m, nd, h1, h2, hk => by
    show bindC kindOf ((p, w) :: P.zip vs) m x = _
    unfold bindC
    exact bindC_get (i := i) (List.nodup_cons.mp nd).2 (by simpa using h1) (by simpa using h2) hk

/-- the names' values at the entry -/
def start (N : List Str) (vs : List V) : St := vs.map some ++ List.replicate (N.length - vs.length) none

/-- the context of a def's body, at its entry; an exception leaves the frame, then lies as CX says -/
def cxOf (CX : CXT) (P : Program) (w : World) (K : PySem.W.Frag) (mg : Str → Option Value) (base : Heap) (N : List Str) (qual : Str) (scope : Scope) (f : Addr) (cd : Value) (A : Around) (outer : List Env) (s : Shared) (H : Hp) (E : XK) : Cx where
  prog := P
  w := w
  K := K
  mg := mg
  base := base
  A := A.deeper (envOfC qual scope s.heap.objs.size f cd)
  N := N
  s₀ := s
  H₀ := H
  env := envOfC qual scope s.heap.objs.size f cd
  outer := outer
  stack := envOfC qual scope s.heap.objs.size f cd :: outer
  ex := []
  calm := true
  fn := fun _ => true
  pn := []
  xe := fun e s' => wpAny (model P w) (A.deeper (envOfC qual scope s.heap.objs.size f cd)) (leaving (envOfC qual scope s.heap.objs.size f cd) e) (fun _ s'' => CX outer H s E e s'') (fun e' s'' => CX outer H s E e' s'') s'

theorem cell_has {sc : Scope} {n : Nat} {x : Str} (h : sc.names.lookup x = some .cell) : ∃ c, (cellsFrom n sc.names []).lookup x = some c := by
  have q := PySem.W.cellsFrom_some sc.names n [] (.inl h)
  exact Option.isSome_iff_exists.mp q

theorem inv_start {CX : CXT} {P : Program} {w : World} {K : PySem.W.Frag} {mg : Str → Option Value} {base : Heap} {N ps : List Str} {qual : Str} {scope : Scope} {f : Addr} {cd : Value} {A : Around} {outer : List Env} {s s1 : Shared} {H : Hp} {E : XK} {us : List Value} {vs : List V}
    (S : FnScope N ps scope) (hd : A.handled = none) (e0 : Env0 P w K mg base A outer s H) (hl : vs.length = ps.length) (r : Vals vs us)
    (x : InCallC s s.heap.objs.size (bindL (envOfC qual scope s.heap.objs.size f cd).kindOf (ps.zip us) fun _ => none) (cellsFrom (s.heap.objs.size + 1) scope.names []) (bindC (envOfC qual scope s.heap.objs.size f cd).kindOf (ps.zip us) fun _ => none) s1) :
    Inv (cxOf CX P w K mg base N qual scope f cd A outer s H E) [] (start N vs) H s1 := by
  have hpl : ps.length ≤ N.length := by have := congrArg List.length S.pre; rw [List.length_take] at this; omega
  obtain ⟨h1, tk, rfl, hk⟩ := x.done
  have noA : ∀ b : Addr, b ∉ (cxOf CX P w K mg base N qual scope f cd A outer s H E).ex := fun b z => absurd (show b ∈ ([] : List Addr) from z) (by simp)
  refine ⟨⟨e0.mod, S.kind, rfl, rfl, Nat.le_refl _, fun y z c h1 h2 => ?_, fun y hy => ?_, fun y c _ h => ?_, fun _ => hd, Around.frames_deeper e0.frames, .inr ⟨rfl, rfl⟩, fun b z => absurd z (noA b), e0.bs, e0.bsz, fun b _ _ => noA b, fun b z => absurd z (noA b), e0.funs, e0.frf⟩,
    rfl, e0.bare, Un.kept hk, ⟨_, x.toInCall.ns, fun i y v h1 h2 h3 => ?_⟩, fun y c h => ⟨_, x.cell y c h⟩, e0.hok.fresh (Nat.le_refl _), fun y c h => ?_, fun p hp => absurd (show p ∈ ([] : List (Addr × Obj)) from hp) (by simp), e0.hok.kept hk, ?_⟩
  · exact name_of_addr x.apart (PySem.mem_of_lookup h1) (PySem.mem_of_lookup h2)
  · have hy : scope.names.lookup y = some .cell ∨ scope.names.lookup y = some .free := hy
    rcases hy with hy | hy
    · exact cell_has hy
    · exact absurd rfl (S.nofree _ (PySem.mem_of_lookup hy))
  · exact Nat.le_of_lt (x.above y c (PySem.mem_of_lookup h))
  · have hi : i < vs.length := by
      unfold start at h2
      by_cases hi : i < vs.length
      · exact hi
      · rw [List.getElem?_append_right (by simpa using hi)] at h2
        rw [List.getElem?_replicate] at h2
        split at h2 <;> cases h2
    have ha : vs[i]? = some v := by
      unfold start at h2
      rw [List.getElem?_append_left (by simpa using hi), List.getElem?_map] at h2
      cases e : vs[i]? with
      | none => rw [e] at h2; cases h2
      | some a => rw [e] at h2; cases h2; rfl
    obtain ⟨u, hu, rv⟩ := r.get ha
    have hp : ps[i]? = some y := by
      rw [← S.pre, List.getElem?_take_of_lt (by omega)]; exact h1
    have ndP : ps.Nodup := by rw [← S.pre]; exact S.nd.sublist (List.take_sublist _ _)
    refine ⟨u, rv, ?_⟩
    rcases S.par y (List.mem_of_getElem? hp) with k | k
    · exact .inl ⟨k, bindL_get ndP hp hu k⟩
    · obtain ⟨c, e⟩ := cell_has (n := s.heap.objs.size + 1) k
      refine .inr ⟨.inl k, c, e, ?_⟩
      have q := x.cell y c e
      rw [bindC_get ndP hp hu (by show scope.names.lookup y ≠ _; rw [k]; decide)] at q
      exact q
  · exact e0.hok.fresh (Nat.le_of_lt (x.above y c (PySem.mem_of_lookup h)))
  · unfold start
    show _ = N.length
    rw [List.length_append, List.length_map, List.length_replicate]
    omega

/-- THE RULE: a def (or a method) of the text, by its body. The body's reading t is chosen for each entry; it is run at the parameters' values -/
theorem fn_of {CX : CXT} {P : Program} {w : World} {K : PySem.W.Frag} {mg : Str → Option Value} {base : Heap} {k : Nat} {f : Addr} {name qual : Str} {params : Arguments} {body : List Stmt} {scope : Scope} {dV kV doc pm cdv ct oc : Value} {an od : Option Addr}
    {osl : Array (Option Value)} {N ps : List Str} {sp : Sp} (lk : K.lookup f = some ⟨oc, od, .func (PySem.W.fnOf name qual params body scope dV kV doc pm an cdv ct), osl⟩) (hcd : PySem.W.codeIn K cdv qual = true) (S : FnScope N ps scope)
    (len : ∀ vs H Q E, sp vs H Q E → vs.length = ps.length)
    (hbody : ∀ (A : Around) (outer : List Env) (s : Shared) (H : Hp) (vs : List V) (Q : VK) (E : XK), Room k (A.deeper (envOfC qual scope s.heap.objs.size f cdv)) → sp vs H Q E →
      ∃ t, PSs (cxOf CX P w K mg base N qual scope f cdv A outer s H E) body t ∧ t { nx := fun _ H' => Q .non H', rt := Q } (start N vs) H) :
    FnOk P w K mg base CX (k + 1) f (PySem.W.fnOf name qual params body scope dV kV doc pm an cdv ct) ps sp := by
  refine ⟨len, fun A outer s H args us vs Q E hr e0 hb r hsp => ?_⟩
  have hl := len _ _ _ _ hsp
  have KX : K.In s.heap := e0.mod.kin.keeps fun b o e => (e0.bs b o e).1
  have lim : s.heap.NoLimit := e0.mod.nolimit.keeps fun b o e => (e0.bs b o e).1
  have hkind : ∀ y ∈ ps.zip us, scope.names.lookup y.1 = some .local ∨ (scope.names.lookup y.1 = some .cell ∧ ((cellsFrom (s.heap.objs.size + 1) scope.names []).lookup y.1).isSome = true) := fun ⟨n, v⟩ hy => by
    rcases S.par n (List.of_mem_zip hy).1 with q | q
    · exact .inl q
    · exact .inr ⟨q, PySem.W.cellsFrom_some _ _ _ (.inl q)⟩
  refine codeAny_call_function hr.depth (KX _ _ lk) rfl S.co S.gen rfl (PySem.W.codeRec_of KX hcd) (hb _ _ _ _ ?_)
  refine wpAny_newFunctionEnv_cells S.kind hkind fun env he s1 x => ?_
  subst he
  refine ⟨lim.keeps x.toInCall.keep, codeAny_func ?_⟩
  obtain ⟨t, ht, hq⟩ := hbody A outer s H vs Q E (hr.deeper _) hsp
  have I : Inv (cxOf CX P w K mg base N qual scope f cdv A outer s H E) [] (start N vs) H s1 := inv_start S hr.hd e0 hl r x
  refine wpAny_mono (ht [] s1 (start N vs) H _ I hq) (fun fl s' hs => ?_) fun e s' hs => hs
  have fin : ∀ {σ' : St} {H' : Hp} {v : V} {u : Value}, Inv (cxOf CX P w K mg base N qual scope f cdv A outer s H E) [] σ' H' s' → RelV v u → Q v H' → CE outer P w H s Q u s' :=
    fun {σ' H' v u} J rv q => ⟨v, H', J.os, J.bare, J.base, J.hok, rv, q⟩
  cases fl with
  | ret u =>
    obtain ⟨v, σ', H', J, rv, q⟩ := hs
    exact fin J rv q
  | next =>
    obtain ⟨σ', H', J, q⟩ := hs
    exact fin (v := V.non) (u := Value.none) J rfl q
  | brk =>
    obtain ⟨_, _, _, q⟩ := hs
    exact False.elim q
  | cont =>
    obtain ⟨_, _, _, q⟩ := hs
    exact False.elim q
end L2

namespace L2
open PySem PySem.Spec PyProof.Rows
section
variable {X : Cx} {x : Str} {p pos : Pos} {e : Expr} {es : List Expr} {t : TA} {id T : String} {r : List V → Hp → VK → Prop}

def tCB (r : List V → Hp → VK → Prop) (t : TA) : TE := fun σ H Q => t σ H fun vs H1 => r vs H1 Q
/-- f(e, ..), f a built-in function -/
theorem pe_callB (hc : CallR X (.builtin id) r) (hg : Gl X x) (hm : X.mg x = none) (hv : bootBuiltins x = some (.builtin id)) (ha : PA X (e :: es) t) (hn : x ≠ "__name__" := by decide) (hdb : (x == ("__debug__" : Str)) = false := by decide)
    (he : starEach (e :: es) X.env = (false, eval e X.env) :: starEach es X.env := by rfl) (hpl : (backTo pos (starEach es X.env)).any (·.1) = false := by rfl) : PE X (.Call (.Name x p) (e :: es) [] pos) (tCB r t) := by
  intro pins s σ H Q I h
  refine wpAny_Call_Name_kw (ld_blt I hg hm hv ?_ hn hdb)
  exact PyProof.Rows.callWith_builtin1 (thn (ha pos pins s σ H _ I h) fun us s1 ⟨vs, H1, I1, r1, q1⟩ => hc pins s1 σ H1 vs us Q I1 r1 q1) he hpl
/-- T(e, ..), T a built-in type -/
theorem pe_callTy (hc : CallR X (.type T) r) (hg : Gl X x) (hm : X.mg x = none) (hv : bootBuiltins x = some (.type T)) (ha : PA X (e :: es) t) (hn : x ≠ "__name__" := by decide) (hdb : (x == ("__debug__" : Str)) = false := by decide)
    (he : starEach (e :: es) X.env = (false, eval e X.env) :: starEach es X.env := by rfl) (hpl : (backTo pos (starEach es X.env)).any (·.1) = false := by rfl) : PE X (.Call (.Name x p) (e :: es) [] pos) (tCB r t) := by
  intro pins s σ H Q I h
  refine wpAny_Call_Name_kw (ld_blt I hg hm hv ?_ hn hdb)
  exact PyProof.Rows.callWith_type1 (thn (ha pos pins s σ H _ I h) fun us s1 ⟨vs, H1, I1, r1, q1⟩ => hc pins s1 σ H1 vs us Q I1 r1 q1) he hpl
end
end L2

namespace HT
open PySem PyProof.Rows

/-- t < u of tuples of ints -/
def lexLt : List Int → List Int → Bool
  | [], [] => false
  | [], _ :: _ => true
  | _ :: _, [] => false
  | x :: xs, y :: ys => if x = y then lexLt xs ys else decide (x < y)
section
open PySem.SeqAt
open PySem.AutoSeq1 (wpAny_loadPart')
open PySem.MeetsSeq PySem.MeetsSeq2 PySem.MeetsSeq3

end

section
variable {prog : Program} {w : World} {A : Around} {E : Value → Shared → Prop} {s : Shared}

/-! ### t[a:b], not the whole -/
/-- a slice's bound as a place among n (d where it is left out) -/
def sIx (n d : Nat) : Option Int → Nat
  | none => d
  | some v => if v < 0 then (v + (n : Int)).toNat else min v.toNat n
end
end HT

namespace L2
open PySem PySem.Spec PyProof.Rows

/-! ### the parts of a slice -/
abbrev TO := St → Hp → (Option Int → Hp → Prop) → Prop
/-- a slice's part (left out, or an int) -/
def PO (X : Cx) (e : Option Expr) (t : TO) : Prop :=
  ∀ (pins : List (Addr × Obj)) (s : Shared) (σ : St) (H : Hp) (Q : Option Int → Hp → Prop), Inv X pins σ H s → t σ H Q →
    wpAny (model X.prog X.w) X.A (evalPart e X.env) (fun u s' => ∃ o H', Inv X pins σ H' s' ∧ IsPart u o ∧ Q o H') X.xe s
def tNoPart : TO := fun _ H Q => Q none H
def tPart (t : TE) : TO := fun σ H Q => t σ H fun x H1 => ∃ i, x = .int i ∧ Q (some i) H1

theorem intsAre_of {ns : List Int} : ∀ {us : List Value}, Vals (ns.map V.int) us → IntsAre us ns := by
  induction ns with
  | nil => intro us r; rw [List.map_nil] at r; cases r; exact .nil
  | cons n ns ih =>
    intro us r
    rw [List.map_cons] at r
    cases r with
    | cons r1 r2 =>
      obtain ⟨t, e⟩ := r1
      subst e
      exact .cons n t (ih r2)

section
variable {X : Cx} {e : Expr} {te : TE} {lo hi : Option Expr} {tl th : TO} {pos p2 : Pos}

theorem po_some (h : PE X e te) : PO X (some e) (tPart te) := by
  intro pins s σ H Q I hw
  rw [evalPart_some]
  refine thn (h pins s σ H _ I hw) fun u s1 ⟨x, H1, I1, r1, q1⟩ => ?_
  obtain ⟨i, rfl, q⟩ := q1
  obtain ⟨t, rfl⟩ := r1
  exact ⟨some i, H1, I1, .int i t, q⟩

/-- what a slice of a value is, by values: the slice object stands at sl -/
def SlR (X : Cx) (r : V → Option Int → Option Int → Hp → VK → Prop) : Prop :=
  ∀ (pins : List (Addr × Obj)) (s : Shared) (σ : St) (H : Hp) (x : V) (v vl vu : Value) (lo hi : Option Int) (sl : Addr) (Q : VK), Inv X pins σ H s → RelV x v → s.heap.IsSliceOf sl vl vu .none → IsPart vl lo → IsPart vu hi → r x lo hi H Q →
    ∃ T id, typeLookup (.type T) "__getitem__" = pure (some (.builtin id)) ∧ s.TypeIs v T ∧ wpAny (model X.prog X.w) X.A (getItem v (.ref sl)) (EP X pins σ Q) X.xe s
def tSl (r : V → Option Int → Option Int → Hp → VK → Prop) (te : TE) (tl th : TO) : TE := fun σ H Q => te σ H fun x H1 => tl σ H1 fun l H2 => th σ H2 fun u H3 => r x l u H3 Q
/-- a[lo:hi], any a -/
theorem pe_slice {r : V → Option Int → Option Int → Hp → VK → Prop} (hr : SlR X r) (he : PE X e te) (hl : PO X lo tl) (hu : PO X hi th) : PE X (.Subscript e (.Slice lo hi none p2) pos) (tSl r te tl th) := by
  intro pins s σ H Q I h
  refine Subscript_ (thn (he pins s σ H _ I h) fun v s1 ⟨x, H1, I1, r1, q1⟩ => ?_)
  refine wpAny_Slice (thn (hl pins s1 σ H1 _ I1 q1) fun vl s2 ⟨l, H2, I2, pl, q2⟩ => thn (hu pins s2 σ H2 _ I2 q2) fun vu s3 ⟨u, H3, I3, pu, q3⟩ => ?_)
  rw [evalPart_none]
  refine wpAny_pure ?_
  have I4 : Inv X pins σ H3 { s3 with heap := s3.heap.push { cls := .type "slice", data := .fields #[vl, vu, .none] } } := I3.kept (t' := s3.toks) fun b ob q => Heap.get?_push_of_some _ q
  obtain ⟨T, id, hT, ht, hg⟩ := hr pins { s3 with heap := s3.heap.push { cls := .type "slice", data := .fields #[vl, vu, .none] } } σ H3 x v vl vu l u s3.heap.objs.size Q I4 r1 (Heap.IsSliceOf.new ..) pl pu q3
  show wpAny (model X.prog X.w) X.A (subscriptTail e (.Slice lo hi none p2) v (.ref s3.heap.objs.size)) (EP X pins σ Q) X.xe { s3 with heap := s3.heap.push { cls := .type "slice", data := .fields #[vl, vu, .none] } }
  exact tail_any (ops := [.ref s3.heap.objs.size, v]) ht hT hg (by with_unfolding_all rfl)

/-- the items of xs[lo:hi] -/
def cutV (xs : List V) (lo hi : Option Int) : List V := (xs.drop (HT.sIx xs.length 0 lo)).take (HT.sIx xs.length xs.length hi - HT.sIx xs.length 0 lo)
theorem cutV_length (xs : List V) (lo hi : Option Int) : (cutV xs lo hi).length ≤ xs.length := by
  unfold cutV
  rw [List.length_take, List.length_drop]
  omega
/-- t[lo:hi], not the whole of it (the whole would be t itself) -/
def rSlT (K : PySem.W.Frag) : V → Option Int → Option Int → Hp → VK → Prop := fun x lo hi H Q => ∃ a xs, x = .ref a ∧ SqT K H a xs ∧
  ¬ (HT.sIx xs.length 0 lo = 0 ∧ HT.sIx xs.length xs.length hi = xs.length) ∧ ∀ p, H p = none → Q (.ref p) (upd H p (.tup (cutV xs lo hi)))
/-! ### t < u, t + u -/
def rLtT (K : PySem.W.Frag) : R2 := fun x y H Q => ∃ a b ns ms, x = .ref a ∧ y = .ref b ∧ SqT K H a (ns.map V.int) ∧ SqT K H b (ms.map V.int) ∧ Q (.bl (HT.lexLt ns ms)) H
/-- t + u, t not empty: u empty gives t itself -/
def rCatT (K : PySem.W.Frag) : R2 := fun x y H Q => ∃ a b xs ys, x = .ref a ∧ y = .ref b ∧ SqT K H a xs ∧ SqT K H b ys ∧ xs ≠ [] ∧ xs.length + ys.length ≤ sizeLine ∧
  (ys = [] → Q (.ref a) H) ∧ (ys ≠ [] → ∀ p, H p = none → Q (.ref p) (upd H p (.tup (xs ++ ys))))
end
end L2

namespace L2
open PySem PySem.Spec PyProof.Rows

/-! ### places -/
/-- the place that an index of any sign means -/
def ixN (n : Nat) (i : Int) : Option Nat := if 0 ≤ i then (if i < n then some i.toNat else none) else if -(n : Int) ≤ i then some (i + n).toNat else none
def atI {α : Type} (xs : List α) (i : Int) : Option α := (ixN xs.length i).bind fun j => xs[j]?
theorem ixN_seq {n : Nat} {i : Int} {j : Nat} (h : ixN n i = some j) : seqIndex? i n = some j ∧ j < n ∧ -(n : Int) ≤ i ∧ i < n := by
  unfold ixN at h
  by_cases h0 : 0 ≤ i
  · rw [if_pos h0] at h
    by_cases h1 : i < n
    · rw [if_pos h1] at h
      have e : i.toNat = j := Option.some.inj h
      exact ⟨by rw [seqIndex_of h0 h1, e], by omega, by omega, h1⟩
    · rw [if_neg h1] at h; cases h
  · rw [if_neg h0] at h
    by_cases h1 : -(n : Int) ≤ i
    · rw [if_pos h1] at h
      have e : (i + n).toNat = j := Option.some.inj h
      exact ⟨by rw [seqIndex_neg (by omega) h1, e], by omega, h1, by omega⟩
    · rw [if_neg h1] at h; cases h
theorem atI_get {α : Type} {xs : List α} {i : Int} {v : α} (h : atI xs i = some v) : ∃ j, seqIndex? i xs.length = some j ∧ xs[j]? = some v ∧ j < xs.length ∧ -(xs.length : Int) ≤ i ∧ i < xs.length := by
  unfold atI at h
  cases e : ixN xs.length i with
  | none => rw [e] at h; cases h
  | some j =>
    rw [e] at h
    obtain ⟨h1, h2, h3, h4⟩ := ixN_seq e
    exact ⟨j, h1, h, h2, h3, h4⟩
theorem atI_nat {α : Type} {xs : List α} {j : Nat} {v : α} (h : xs[j]? = some v) : atI xs (j : Int) = some v := by
  have hj : j < xs.length := (List.getElem?_eq_some_iff.mp h).1
  have e : ixN xs.length (j : Int) = some j := by
    unfold ixN
    rw [if_pos (by omega), if_pos (by omega)]; simp
  unfold atI; rw [e]; exact h
theorem atI_last {α : Type} (xs : List α) (v : α) : atI (xs ++ [v]) (-1) = some v := by
  have hl : (xs ++ [v]).length = xs.length + 1 := by simp
  have e : ixN (xs ++ [v]).length (-1) = some xs.length := by
    unfold ixN
    rw [hl, if_neg (by decide), if_pos (by omega)]
    congr 1
    omega
  unfold atI
  rw [e]
  show (xs ++ [v])[xs.length]? = some v
  simp

/-! ### what may be subscripted -/
/-- what stands as an index of a plain subscript -/
def PlainIx (b : Expr) : Prop := ∀ o i, subscripted b false o i = operate [o, i] (getItem o i)
/-- a subscript by values -/
def IxR (X : Cx) (r : R2) : Prop :=
  ∀ (value slice : Expr) (pins : List (Addr × Obj)) (s : Shared) (σ : St) (H : Hp) (x y : V) (v u : Value) (Q : VK), Inv X pins σ H s → RelV x v → RelV y u → r x y H Q →
    subscripted slice false v u = operate [v, u] (getItem v u) → wpAny (model X.prog X.w) X.A (subscriptTail value slice v u) (EP X pins σ Q) X.xe s
/-- a call of a builtin's method by values: the receiver, the arguments -/
def MtR (X : Cx) (id : String) (r : V → List V → Hp → VK → Prop) : Prop :=
  ∀ (pins : List (Addr × Obj)) (s : Shared) (σ : St) (H : Hp) (x : V) (xs : List V) (v : Value) (us : List Value) (Q : VK), Inv X pins σ H s → RelV x v → Vals xs us → r x xs H Q →
    wpAny (model X.prog X.w) X.A (call (.builtin id) (v :: us)) (EP X pins σ Q) X.xe s
section
variable {X : Cx} {a b : Expr} {ta tb : TE} {pos : Pos}
/-- a[b] -/
theorem pe_ix {r : R2} (hr : IxR X r) (ha : PE X a ta) (hb : PE X b tb) (hs : PlainIx b) : PE X (.Subscript a b pos) (tOp r ta tb) := by
  intro pins s σ H Q I h
  exact Subscript_ (binT ha hb I h fun v u s2 x y H2 I2 rx ry q => hr a b pins s2 σ H2 x y v u Q I2 rx ry q (hs _ _))

def rIxL (K : PySem.W.Frag) : R2 := fun x y H Q => ∃ p xs i v, x = .ref p ∧ y = .int i ∧ SqL K H p xs ∧ atI xs i = some v ∧ Q v H
def rIxT (K : PySem.W.Frag) : R2 := fun x y H Q => ∃ p xs i v, x = .ref p ∧ y = .int i ∧ SqT K H p xs ∧ atI xs i = some v ∧ Q v H
def rIxS : R2 := fun x y H Q => ∃ z i c, x = .str z ∧ y = .int i ∧ z.length ≤ sizeLine ∧ atI z.cps.toList i = some c ∧ Q (.str ⟨#[c]⟩) H
theorem ix_list : IxR X (rIxL X.K) := by
  intro value slice pins s σ H x y v u Q I rx ry h hs
  obtain ⟨p, xs, i, z, rfl, rfl, hq, he, q⟩ := h
  cases rx
  obtain ⟨t, rfl⟩ := ry
  obtain ⟨its, r, pl, hz⟩ := I.list hq
  obtain ⟨j, h1, h2, h3, h4, h5⟩ := atI_get he
  obtain ⟨w, ew, rw'⟩ := r.get h2
  have hl := r.length
  have hn := line63
  have fin : EP X pins σ Q w s := ⟨z, H, I, rw', q⟩
  by_cases h0 : 0 ≤ i
  · have hj : i.toNat = j := by
      rw [seqIndex_of h0 h5] at h1
      exact Option.some.inj h1
    exact item_listR pl.isList h0 (by omega) (by rw [hj]; simpa using ew) fin hs
  · have hj : (i + (its.toArray.size : Int)).toNat = j := by
      rw [seqIndex_neg (by omega) h4] at h1
      rw [List.size_toArray, ← hl]
      exact Option.some.inj h1
    exact subscriptTail_builtinR (x := w) pl.isList.typeIs slot_list_getitem.lookup
      (wpAny_getItem_list_neg (Q := fun r s' => r = w ∧ EP X pins σ Q r s') pl.isList (by omega) (by rw [List.size_toArray] <;> omega) (by omega) (by rw [hj]; simpa using ew) ⟨rfl, fin⟩) hs
theorem ix_tup : IxR X (rIxT X.K) := by
  intro value slice pins s σ H x y v u Q I rx ry h hs
  obtain ⟨p, xs, i, z, rfl, rfl, hq, he, q⟩ := h
  cases rx
  obtain ⟨t, rfl⟩ := ry
  obtain ⟨its, r, pl, hz⟩ := I.tuple hq
  obtain ⟨j, h1, h2, h3, h4, h5⟩ := atI_get he
  obtain ⟨w, ew, rw'⟩ := r.get h2
  have hl := r.length
  have hn := line63
  have fin : EP X pins σ Q w s := ⟨z, H, I, rw', q⟩
  exact subscriptTail_builtinR (x := w) pl.typeIs slot_tuple_getitem.lookup
    (getItem_tuple (j := j) (Q := fun r s' => r = w ∧ EP X pins σ Q r s') pl (by omega) (by omega) (by rw [List.size_toArray, ← hl]; exact h1) (by simpa using ew) ⟨rfl, fin⟩) hs
/-- list, tuple or str -/
def rIx (K : PySem.W.Frag) : R2 := fun x y H Q => rIxL K x y H Q ∨ rIxT K x y H Q ∨ rIxS x y H Q
/-! ### xs[i] = v, any sign -/
def rSetL : V → V → V → Hp → (Hp → Prop) → Prop := fun o i v H Q => ∃ p xs k j, o = .ref p ∧ i = .int k ∧ H p = some (.lst xs) ∧ ixN xs.length k = some j ∧ Q (upd H p (.lst (xs.set j v)))
/-! ### slices -/
theorem slice_bounds (lo hi : Option Int) (n : Nat) : (sliceBounds lo hi none n).1 = ((HT.sIx n 0 lo : Nat) : Int) ∧ (sliceBounds lo hi none n).2.1 = ((HT.sIx n n hi : Nat) : Int) ∧ (sliceBounds lo hi none n).2.2 = 1 := by
  refine ⟨?_, ?_, rfl⟩
  · cases lo with
    | none => simp [sliceBounds, HT.sIx]
    | some i =>
      simp only [sliceBounds, HT.sIx, Option.getD_none, show (1 : Int) > 0 by decide, if_true]
      by_cases h : i < 0
      · simp only [h, if_true] <;> omega
      · simp only [h, if_false] <;> omega
  · cases hi with
    | none => simp [sliceBounds, HT.sIx]
    | some i =>
      simp only [sliceBounds, HT.sIx, Option.getD_none, show (1 : Int) > 0 by decide, if_true]
      by_cases h : i < 0
      · simp only [h, if_true] <;> omega
      · simp only [h, if_false] <;> omega
theorem slicePick_cut (its : List Value) (lo hi : Option Int) : slicePick its.toArray lo hi none = ((its.drop (HT.sIx its.length 0 lo)).take (HT.sIx its.length its.length hi - HT.sIx its.length 0 lo)).toArray := by
  obtain ⟨h1, h2, h3⟩ := slice_bounds lo hi its.toArray.size
  unfold slicePick
  rw [h1, h2, h3]
  simp only [sliceRange_one, pick_run, List.size_toArray] <;> rfl
/-- xs[lo:hi] of a list: a new list -/
def rSlL (K : PySem.W.Frag) : V → Option Int → Option Int → Hp → VK → Prop := fun x lo hi H Q => ∃ a xs, x = .ref a ∧ SqL K H a xs ∧ ∀ p, H p = none → Q (.ref p) (upd H p (.lst (cutV xs lo hi)))
theorem sl_list : SlR X (rSlL X.K) := by
  intro pins s σ H x v vl vu lo hi sl Q I rx hs pl pu h
  obtain ⟨a, xs, rfl, hx, q⟩ := h
  cases rx
  obtain ⟨its, r, ht, hz⟩ := I.list hx
  have hlen := r.length
  refine ⟨"list", _, slot_list_getitem.lookup, ht.isList.typeIs, ?_⟩
  refine wpAny_getItem_list_slice ht.isList hs pl pu .none (by simp) ?_ (by rw [List.size_toArray] <;> omega)
  rw [slicePick_cut, ← hlen]
  refine ⟨.ref s.heap.objs.size, _, I.laid (t' := s.toks) (o := .lst (cutV xs lo hi)) (fun b ob q => Heap.get?_push_of_some _ q) (Nat.le_refl _) ?_, rfl, q _ (I.hok.fresh (Nat.le_refl _))⟩
  exact ⟨Nat.le_trans (cutV_length xs lo hi) hz, _, 0, (r.drop (HT.sIx xs.length 0 lo)).take (HT.sIx xs.length xs.length hi - HT.sIx xs.length 0 lo), Heap.get?_push_size _ rfl⟩

/-! ### in, not in: flat items -/
def flatV : V → Bool
  | .non => true
  | .bl _ => true
  | .int _ => true
  | .str _ => true
  | _ => false
/-- == of flat values -/
def eqV : V → V → Bool
  | .non, .non => true
  | .bl a, .bl b => a == b
  | .bl a, .int b => (if a then 1 else 0) == b
  | .int a, .bl b => a == (if b then 1 else 0)
  | .int a, .int b => a == b
  | .str a, .str b => a == b
  | _, _ => false
theorem eqAt_V {A : Around} {s : Shared} {y x : V} {u v : Value} (ry : RelV y u) (rx : RelV x v) (fy : flatV y = true) (fx : flatV x = true) : SeqAt.EqAt A s u v (eqV y x) := by
  cases y with
  | non =>
    cases ry
    cases x with
    | non => cases rx; exact SeqAt.EqAt.same _
    | bl b => cases rx; exact SeqAt.EqAt.none_bool b
    | int b => obtain ⟨t, rfl⟩ := rx; exact SeqAt.EqAt.none_int b t
    | str b => obtain ⟨t, rfl⟩ := rx; exact SeqAt.EqAt.none_str b t
    | _ => exact absurd (show false = true from fx) Bool.false_ne_true
  | bl a =>
    cases ry
    cases x with
    | non => cases rx; exact SeqAt.EqAt.bool_none a
    | bl b => cases rx; exact SeqAt.EqAt.bool_bool a b
    | int b => obtain ⟨t, rfl⟩ := rx; exact SeqAt.EqAt.bool_int a b t
    | str b => obtain ⟨t, rfl⟩ := rx; exact SeqAt.EqAt.bool_str a b t
    | _ => exact absurd (show false = true from fx) Bool.false_ne_true
  | int a =>
    obtain ⟨t', rfl⟩ := ry
    cases x with
    | non => cases rx; exact SeqAt.EqAt.int_none a t'
    | bl b => cases rx; exact SeqAt.EqAt.int_bool a t' b
    | int b => obtain ⟨t, rfl⟩ := rx; exact SeqAt.EqAt.int_int a t' b t
    | str b => obtain ⟨t, rfl⟩ := rx; exact SeqAt.EqAt.int_str a t' b t
    | _ => exact absurd (show false = true from fx) Bool.false_ne_true
  | str a =>
    obtain ⟨t', rfl⟩ := ry
    cases x with
    | non => cases rx; exact SeqAt.EqAt.str_none a t'
    | bl b => cases rx; exact SeqAt.EqAt.str_bool a t' b
    | int b => obtain ⟨t, rfl⟩ := rx; exact SeqAt.EqAt.str_int a t' b t
    | str b => obtain ⟨t, rfl⟩ := rx; exact SeqAt.EqAt.str_str a t' b t
    | _ => exact absurd (show false = true from fx) Bool.false_ne_true
  | _ => exact absurd (show false = true from fy) Bool.false_ne_true
/-- the items' answers, read off the values (a value's own answer does not lean on its token) -/
def eqU (x : V) (u : Value) : Bool := match u with
  | .none => eqV .non x
  | .bool b => eqV (.bl b) x
  | .int i _ => eqV (.int i) x
  | .str z _ => eqV (.str z) x
  | _ => false
def inV (x : V) (xs : List V) : Bool := xs.any fun y => eqV y x
/-- x in a list or tuple of flat items -/
def rIn (K : PySem.W.Frag) (neg : Bool) : R2 := fun x y H Q => ∃ p xs, y = .ref p ∧ (SqL K H p xs ∨ SqT K H p xs) ∧ flatV x = true ∧ xs.all flatV = true ∧ Q (.bl (if neg then !inV x xs else inV x xs)) H
/-! ### len, list(x), tuple(x) of any list or tuple that is read -/
theorem call_len_seq : CallR X (.builtin "len") (fun xs H Q => ∃ p ys, xs = [.ref p] ∧ (SqL X.K H p ys ∨ SqT X.K H p ys) ∧ Q (.int ys.length) H) := by
  intro pins s σ H xs us Q I r h
  obtain ⟨p, ys, rfl, hq, q⟩ := h
  obtain ⟨u, rfl, rx⟩ := vals1 r
  cases rx
  have hn := line63
  rcases hq with hq | hq
  · obtain ⟨its, r', pl, hz⟩ := I.list hq
    have hlen := r'.length
    exact Calls.call_len_list pl.isList (by simp only [List.size_toArray] <;> omega) ⟨.int ys.length, H, I.tok _, ⟨s.toks + 1, by rw [List.size_toArray, hlen]⟩, q⟩
  · obtain ⟨its, r', pl, hz⟩ := I.tuple hq
    have hlen := r'.length
    exact len_tuple pl (by simp only [List.size_toArray] <;> omega) ⟨.int ys.length, H, I.tok _, ⟨s.toks + 1, by rw [List.size_toArray, hlen]⟩, q⟩
theorem call_list_of : CallR X (.type "list") (fun xs H Q => ∃ p ys, xs = [.ref p] ∧ (SqL X.K H p ys ∨ SqT X.K H p ys) ∧ ∀ l, H l = none → Q (.ref l) (upd H l (.lst ys))) := by
  intro pins s σ H xs us Q I r h
  obtain ⟨p, ys, rfl, hq, q⟩ := h
  obtain ⟨u, rfl, rx⟩ := vals1 r
  cases rx
  have fin : ∀ (its : List Value), Vals ys its → ys.length ≤ sizeLine → ∀ (h' : Heap) (c' : Nat), (∀ b o', s.heap.get? b = some o' → h'.get? b = some o') →
      h'.get? s.heap.objs.size = some { cls := .type "list", dict := none, data := .seq its.toArray c', slots := #[] } → EP X pins σ Q (.ref s.heap.objs.size) { s with heap := h' } := fun its r' hz h' c' kp e =>
    ⟨.ref s.heap.objs.size, _, I.laid (t' := s.toks) kp (Nat.le_refl _) (show ObjOk X.prog X.w _ h' _ (.lst ys) from ⟨hz, its, c', r', e⟩), rfl, q _ (I.hok.fresh (Nat.le_refl _))⟩
  rcases hq with hq | hq
  · obtain ⟨its, r', pl, hz⟩ := I.list hq
    have hlen := r'.length
    obtain ⟨o, ho, hc, n, hd⟩ := pl.isList
    exact call_list_seq p (.inl rfl) ho hc hd (fun h' c' kp e => fin its r' hz h' c' kp e) (by simp only [List.size_toArray] <;> omega)
  · obtain ⟨its, r', pl, hz⟩ := I.tuple hq
    have hlen := r'.length
    obtain ⟨o, ho, hc, n, hd⟩ := pl
    exact call_list_seq p (.inr rfl) ho hc hd (fun h' c' kp e => fin its r' hz h' c' kp e) (by simp only [List.size_toArray] <;> omega)
/-! ### the call of a builtin's method: o.m(..) -/
/-- the value is of that builtin type -/
def tyV (K : PySem.W.Frag) (T : String) (x : V) (H : Hp) : Prop := match x with
  | .str _ => T = "str"
  | .int _ => T = "int"
  | .ref p => (T = "list" ∧ ∃ xs, SqL K H p xs) ∨ (T = "tuple" ∧ ∃ o, K.lookup p = some o ∧ o.cls = .type "tuple" ∧ o.dict = none) ∨
      (T = "dict" ∧ ((∃ kvs, H p = some (.dK kvs)) ∨ ∃ kvs, H p = some (.dT kvs))) ∨ (T = "set" ∧ ∃ S n, H p = some (.set S n))
  | _ => False
theorem tyV_is {pins : List (Addr × Obj)} {σ : St} {H : Hp} {s : Shared} {T : String} {x : V} {v : Value} (I : Inv X pins σ H s) (r : RelV x v) (ty : tyV X.K T x H) :
    s.TypeIs v T ∧ ∀ a, v = .ref a → ∃ ob, s.heap.get? a = some ob ∧ ob.dict = none := by
  cases x with
  | str z =>
    obtain ⟨t, rfl⟩ := r
    cases (show T = "str" from ty)
    exact ⟨typeIs_str s z t, fun _ e => nomatch e⟩
  | int i =>
    obtain ⟨t, rfl⟩ := r
    cases (show T = "int" from ty)
    exact ⟨typeIs_int s i t, fun _ e => nomatch e⟩
  | ref p =>
    cases r
    rcases ty with ⟨rfl, xs, hq⟩ | ⟨rfl, o, hk, hc, hd⟩ | ⟨rfl, hk⟩ | ⟨rfl, S, n, hk⟩
    · obtain ⟨its, _, pl, _⟩ := I.list hq
      refine ⟨pl.isList.typeIs, fun a e => ?_⟩
      cases e
      obtain ⟨o, n, e, c, hd, _⟩ := pl
      exact ⟨o, e, hd⟩
    · refine ⟨⟨o, I.kIn p o hk, hc⟩, fun a e => ?_⟩
      cases e
      exact ⟨o, I.kIn _ o hk, hd⟩
    · have z : ∃ o, s.heap.get? p = some o ∧ o.ExactDict := by
        rcases hk with ⟨kvs, hk⟩ | ⟨kvs, hk⟩
        · obtain ⟨_, _, _, _, o, _, _, e, ex, _⟩ := I.hok p _ hk
          exact ⟨o, e, ex⟩
        · obtain ⟨_, _, _, _, o, _, _, e, ex, _⟩ := I.hok p _ hk
          exact ⟨o, e, ex⟩
      obtain ⟨o, e, ex⟩ := z
      refine ⟨⟨o, e, ex.1⟩, fun a e2 => ?_⟩
      cases e2
      exact ⟨o, e, ex.2.1⟩
    · obtain ⟨o, _, _, _, e, ex, _⟩ := I.hok p _ hk
      refine ⟨⟨o, e, ex.1⟩, fun a e2 => ?_⟩
      cases e2
      exact ⟨o, e, ex.2.1⟩
  | _ => exact False.elim ty
def tBM0 (K : PySem.W.Frag) (T : String) (r : V → List V → Hp → VK → Prop) (to : TE) : TE := fun σ H Q => to σ H fun x H1 => tyV K T x H1 ∧ r x [] H1 Q
def tBM (K : PySem.W.Frag) (T : String) (r : V → List V → Hp → VK → Prop) (to : TE) (t : TA) : TE := fun σ H Q => to σ H fun x H1 => tyV K T x H1 ∧ t σ H1 fun xs H2 => r x xs H2 Q
variable {o e : Expr} {es : List Expr} {to : TE} {t : TA} {name : Str} {apos cpos : Pos} {T id : String} {r : V → List V → Hp → VK → Prop}
theorem pe_bm0 (pa : PlainAttrs T) (slot : Slot T name id) (hty : typeOf (.builtin id) = pure (.type "method_descriptor")) (hm : MtR X id r) (ho : PE X o to)
    (hbase : attributeBase o name X.env (eval o X.env) = eval o X.env := by rfl) (hline : (apos.endLine == cpos.line) = true := by rfl) : PE X (.Call (.Attribute o name apos) [] [] cpos) (tBM0 X.K T r to) := by
  intro pins s σ H Q I h
  refine wpAny_Call_method0_late hbase hline (thn (ho pins s σ H _ I h) fun v s1 ⟨x, H1, I1, r1, ty, q1⟩ => ?_)
  obtain ⟨h1, h2⟩ := tyV_is I1 r1 ty
  exact ⟨T, id, pa, slot, hty, h1, h2, Calls.callWith_builtin rfl (PySem.evalArgs_none (hm pins s1 σ H1 x [] v [] Q I1 r1 .nil q1))⟩
theorem pe_bm (pa : PlainAttrs T) (slot : Slot T name id) (hty : typeOf (.builtin id) = pure (.type "method_descriptor")) (hm : MtR X id r) (ho : PE X o to) (ha : PA X (e :: es) t)
    (hbase : attributeBase o name X.env (eval o X.env) = eval o X.env := by rfl)
    (hfew : ((backTo cpos (starEach (e :: es) X.env)).all (fun x => !x.1) && (backToKw cpos (keywordEach [] X.env)).all (fun x => x.1.isSome)
      && decide ((e :: es).length + ([] : List Keyword).length + (if ([] : List Keyword).isEmpty then 0 else 1) < 30)) = true := by rfl)
    (hline : (apos.endLine == cpos.line) = true := by rfl) (hs : starEach (e :: es) X.env = (false, eval e X.env) :: starEach es X.env := by rfl) (hplain : (backTo cpos (starEach es X.env)).any (·.1) = false := by rfl) :
    PE X (.Call (.Attribute o name apos) (e :: es) [] cpos) (tBM X.K T r to t) := by
  intro pins s σ H Q I h
  refine wpAny_Call_method_late hbase hfew hline rfl (thn (ho pins s σ H _ I h) fun v s1 ⟨x, H1, I1, r1, ty, q1⟩ => ?_)
  obtain ⟨h1, h2⟩ := tyV_is I1 r1 ty
  refine ⟨T, id, pa, slot, hty, h1, h2, ?_⟩
  have hA := ha cpos pins s1 σ H1 _ I1 q1
  rw [hs] at hA ⊢
  refine Calls.callWith_builtin (by show (false || (backTo cpos (starEach es X.env)).any (·.1)) = false; rw [hplain] <;> rfl) (Calls.evalArgs_plain ?_)
  exact thn hA fun us s2 ⟨vs, H2, I2, r2, q2⟩ => hm pins s2 σ H2 x vs v us Q I2 r1 r2 q2
/- xs.append(e), list.index on a module's tuple .. are MtR facts of 06m -/
end
end L2

namespace L2
open PySem PySem.Spec PyProof.Rows

def MtM (X : Cx) (id : String) (r : V → List V → Hp → VK → Prop) : Prop :=
  ∀ (pins : List (Addr × Obj)) (s : Shared) (σ : St) (H : Hp) (x : V) (xs : List V) (v : Value) (us : List Value) (Q : VK), Inv X pins σ H s → RelV x v → Vals xs us → r x xs H Q →
    wpAny (model X.prog X.w) X.A (call (.builtin id) (v :: us)) (EP X pins σ Q) X.xe s

/-! ### lists of values -/
theorem Vals.one : ∀ {x : V} {us : List Value}, Vals [x] us → ∃ u, us = [u] ∧ RelV x u
  | _, _, .cons r .nil => ⟨_, rfl, r⟩
theorem Vals.two : ∀ {x y : V} {us : List Value}, Vals [x, y] us → ∃ u v, us = [u, v] ∧ RelV x u ∧ RelV y v
  | _, _, _, .cons r (.cons q .nil) => ⟨_, _, rfl, r, q⟩
theorem Vals.zero : ∀ {us : List Value}, Vals [] us → us = []
  | _, .nil => rfl
theorem Vals.reverse {xs : List V} {us : List Value} (h : Vals xs us) : Vals xs.reverse us.reverse := by
  induction h with
  | nil => exact .nil
  | cons r t ih => rw [List.reverse_cons, List.reverse_cons]; exact Vals.append ih (.cons r .nil)
section
variable {X : Cx} {pins : List (Addr × Obj)} {σ : St} {H : Hp} {s : Shared} {l b : Addr} {xs ys zs : List V}

/-! ### the two steps: a tracked list is rewritten, a new list is laid -/
theorem Inv.lset {its its' : List Value} {n : Nat} {f : Array Value → Array Value} {t' : Nat} (I : Inv X pins σ H s) (hH : H l = some (.lst xs))
    (e : s.heap.get? l = some { cls := .type "list", data := .seq its.toArray n }) (hf : f its.toArray = its'.toArray) (hv : Vals ys its') (hz : ys.length ≤ sizeLine) :
    Inv X pins σ (upd H l (.lst ys)) { s with heap := s.heap.update l (Obj.mapSeq f), toks := t' } := by
  have q := PySem.IsL.update e f
  rw [hf] at q
  refine I.write (x := l) (e := l) (by rw [hH]; exact trivial) (.inl rfl) (fun b' u hb hu => (Heap.get?_update_other s.heap (Obj.mapSeq f) (Ne.symm hb)).trans hu) ⟨_, q⟩ ?_
  exact ⟨hz, its', _, hv, q⟩
theorem Inv.lnew {its : List Value} {t' : Nat} (I : Inv X pins σ H s) (hv : Vals ys its) (hz : ys.length ≤ sizeLine) :
    Inv X pins σ (upd H s.heap.objs.size (.lst ys)) { s with heap := s.heap.push { cls := .type "list", data := .seq its.toArray }, toks := t' } :=
  I.laid (fun _ _ q => Heap.get?_push_of_some _ q) (Nat.le_refl _) ⟨hz, its, 0, hv, Heap.get?_push_size _ rfl⟩
theorem Inv.fresh (I : Inv X pins σ H s) : H s.heap.objs.size = none := I.hok.fresh (Nat.le_refl _)
theorem Inv.lstM (I : Inv X pins σ H s) (hH : H l = some (.lst xs)) : xs.length ≤ sizeLine ∧ ∃ (its : List Value) (n : Nat), Vals xs its ∧ xs.length = its.length ∧ s.heap.get? l = some { cls := .type "list", data := .seq its.toArray n } := by
  obtain ⟨z, its, n, r, e⟩ := I.hok l _ hH
  exact ⟨z, its, n, r, r.length, e⟩

theorem notLongL {n : Nat} (h : n ≤ sizeLine) : Builtin.List.listTooLong n = false := by
  unfold Builtin.List.listTooLong
  exact decide_eq_false (by omega)
end

section
variable {X : Cx}

/-! ### methods -/
def rAppend : V → List V → Hp → VK → Prop := fun x vs H Q => ∃ l xs y, x = .ref l ∧ vs = [y] ∧ H l = some (.lst xs) ∧ xs.length < sizeLine ∧ Q .non (upd H l (.lst (xs ++ [y])))
theorem mt_append : MtM X "list.append" rAppend := by
  intro pins s σ H x vs v us Q I rx rv h
  obtain ⟨l, xs, y, rfl, rfl, hH, hz, q⟩ := h
  cases rx
  obtain ⟨u, rfl, ru⟩ := rv.one
  obtain ⟨z, its, n, r, hl, e⟩ := I.lstM hH
  refine call_meets F.slot_list_append ⟨_, e, rfl⟩ F.entry_list_append (F.args_list_append_2 _ _) (PySem.list_append l its.toArray n u (by rw [List.size_toArray]; omega)) ⟨e, ?_⟩
  refine ⟨.non, _, I.lset (its' := its ++ [u]) hH e (by simp) (r.append (.cons ru .nil)) ?_, rfl, q⟩
  rw [List.length_append, List.length_singleton]
  omega

def rExtend : V → List V → Hp → VK → Prop := fun x vs H Q => ∃ l b xs zs, x = .ref l ∧ vs = [.ref b] ∧ H l = some (.lst xs) ∧ H b = some (.lst zs) ∧ xs.length + zs.length ≤ sizeLine ∧ Q .non (upd H l (.lst (xs ++ zs)))
theorem mt_extend : MtM X "list.extend" rExtend := by
  intro pins s σ H x vs v us Q I rx rv h
  obtain ⟨l, b, xs, zs, rfl, rfl, hH, hB, hz, q⟩ := h
  cases rx
  obtain ⟨u, rfl, ru⟩ := rv.one
  cases ru
  obtain ⟨z, its, n, r, hl, e⟩ := I.lstM hH
  obtain ⟨z2, its2, n2, r2, hl2, e2⟩ := I.lstM hB
  have hsz : its.toArray.size + its2.toArray.size ≤ sizeLine := by rw [List.size_toArray, List.size_toArray]; omega
  have hlong : ¬ (!its.toArray.isEmpty && Builtin.List.listTooLong (its.toArray.size + its2.toArray.size)) = true := by
    rw [notLongL hsz, Bool.and_false]
    exact Bool.false_ne_true
  refine call_meets F.slot_list_extend ⟨_, e, rfl⟩ F.entry_list_extend (F.args_list_extend_2 _ _)
    (AutoSeq1.list_extend_list_list_0 l its.toArray n b its2.toArray n2 hlong (by rw [List.size_toArray]; omega) (by omega)) ⟨e, e2, ?_⟩
  refine ⟨.non, _, I.lset (its' := its ++ its2) hH e (by simp) (r.append r2) ?_, rfl, q⟩
  rw [List.length_append]
  omega

def rPop : V → List V → Hp → VK → Prop := fun x vs H Q => ∃ l xs y, x = .ref l ∧ vs = [] ∧ H l = some (.lst xs) ∧ xs[xs.length - 1]? = some y ∧ Q y (upd H l (.lst xs.dropLast))
def rPopAt : V → List V → Hp → VK → Prop := fun x vs H Q => ∃ l xs i k y, x = .ref l ∧ vs = [.int i] ∧ H l = some (.lst xs) ∧ -(2 ^ 63) ≤ i ∧ i < 2 ^ 63 ∧ seqIndex? i xs.length = some k ∧ xs[k]? = some y ∧ Q y (upd H l (.lst (xs.eraseIdx k)))
def rReverse : V → List V → Hp → VK → Prop := fun x vs H Q => ∃ l xs, x = .ref l ∧ vs = [] ∧ H l = some (.lst xs) ∧ Q .non (upd H l (.lst xs.reverse))
theorem mt_reverse : MtM X "list.reverse" rReverse := by
  intro pins s σ H x vs v us Q I rx rv h
  obtain ⟨l, xs, rfl, rfl, hH, q⟩ := h
  cases rx
  have hus := rv.zero
  subst hus
  obtain ⟨z, its, n, r, hl, e⟩ := I.lstM hH
  refine call_meets F.slot_list_reverse ⟨_, e, rfl⟩ F.entry_list_reverse (F.args_list_reverse_1 _) (AutoSeq1.list_reverse_list_0 l its.toArray n (by rw [List.size_toArray]; omega)) ⟨e, ?_⟩
  refine ⟨.non, _, I.lset (its' := its.reverse) hH e (by simp) r.reverse ?_, rfl, q⟩
  rw [List.length_reverse]
  omega

def rClear : V → List V → Hp → VK → Prop := fun x vs H Q => ∃ l xs, x = .ref l ∧ vs = [] ∧ H l = some (.lst xs) ∧ Q .non (upd H l (.lst []))
/-! ### list + list, list += list, list * int -/
def rCat : R2 := fun x y H Q => ∃ l b xs zs, x = .ref l ∧ y = .ref b ∧ H l = some (.lst xs) ∧ H b = some (.lst zs) ∧ xs.length + zs.length ≤ sizeLine ∧ ∀ p, H p = none → Q (.ref p) (upd H p (.lst (xs ++ zs)))
theorem op_cat : OpR X (binaryOp .Add) rCat := by
  intro pins s σ H x y v u Q I rx ry h
  obtain ⟨l, b, xs, zs, rfl, rfl, hH, hB, hz, q⟩ := h
  cases rx
  cases ry
  obtain ⟨z, its, n, r, hl, e⟩ := I.lstM hH
  obtain ⟨z2, its2, n2, r2, hl2, e2⟩ := I.lstM hB
  refine PySem.P.add_list e e2 ?_ (by rw [List.size_toArray, List.size_toArray]; omega)
  have ea : its.toArray ++ its2.toArray = (its ++ its2).toArray := by simp
  rw [ea]
  exact ⟨.ref _, _, I.lnew (t' := s.toks) (r.append r2) (by rw [List.length_append]; omega), rfl, q _ I.fresh⟩
/-- a list times an int (a negative one is nothing) -/
def rRep : R2 := fun x y H Q => ∃ l k xs, x = .ref l ∧ y = .int k ∧ H l = some (.lst xs) ∧ -(2 ^ 63) ≤ k ∧ k < 2 ^ 63 ∧ xs.length * k.toNat ≤ sizeLine ∧
  ∀ p, H p = none → Q (.ref p) (upd H p (.lst (List.replicate k.toNat xs).flatten))
/-! ### del xs[i] -/
end

/-! ### xs[a:b] = ys -/
section
variable {prog : Program} {w : World} {A : Around} {E : Value → Shared → Prop} {s : Shared}
set_option maxRecDepth 100000 in
end

section
variable {X : Cx}
end
end L2

namespace Att
open PySem PySem.W PySem.Calls PyProof.Rows

/-! ### the script -/
theorem ints_of_wellAll {P : Params} {h : Heap} : ∀ (ns : List Int) (vs : List Value), WellAll P h vs (ns.map WData.int) → IntsAre vs ns := by
  intro ns
  induction ns with
  | nil =>
    intro vs w
    rw [List.map_nil] at w
    cases w
    exact .nil
  | cons n ns ih =>
    intro vs w
    rw [List.map_cons] at w
    cases w with
    | cons a b =>
      cases a
      exact .cons _ _ (ih _ b)

theorem script_of {l : OpenLaw} {n : Nat} (hn : l.most = some n) {P : Params} {h : Heap} {args : List WData} {vals : List Value}
    (hpre : l.row.toRowW.claim.pre args = true) (hwl : WellAll P h vals args) :
    ∃ a vs ns, vals = [Value.ref a] ∧ args = [WData.list (ns.map WData.int)] ∧ h.get? a = some { cls := .type "list", data := .seq vs.toArray } ∧ IntsAre vs ns ∧ ns.length ≤ n := by
  have hsh : WShape.hasAll [] args [.list .int] = true := (pre_splitW hpre).1
  have hc : l.pre.holds [] { args := args } = true := (pre_splitW hpre).2
  obtain ⟨d, r, rfl, h1, h2⟩ := hasAllW_cons hsh
  obtain rfl := hasAllW_nil h2
  obtain ⟨xs, rfl, h3⟩ := hasW_list h1
  obtain ⟨ns, rfl⟩ := items_int h3
  have hlen : ns.length ≤ n := by
    unfold OpenLaw.pre at hc
    have h4 : (WTm.not (.lt (.lit (.int (n : Int))) (.len (.arg 0)))).holds [] { args := [.list (ns.map .int)] } = true := by
      have h4 := (holds_andW hc).1
      rw [hn] at h4
      exact h4
    have h5 := condW_of h4 (w_not (w_lt w_lit (w_len_list (w_arg rfl))))
    rw [List.length_map] at h5
    refine Nat.le_of_not_lt fun q => ?_
    have q' : (n : Int) < ((ns.length : Nat) : Int) := by omega
    first
      | (rw [decide_eq_true q'] at h5; exact absurd h5 (by decide))
      | (simp at h5; omega)
  cases hwl with
  | cons w1 w2 =>
    cases w2
    cases w1 with
    | list ho hall => exact ⟨_, _, ns, rfl, rfl, ho, ints_of_wellAll ns _ hall, hlen⟩

theorem post_true (l : OpenLaw) (args : List WData) : l.row.toRowW.claim.post args (.bool true) args = true :=
  postW_of (r := l.row.toRowW) (X := (true == true))
    (show WShape.has [] (.bool true) .bool = true by first | rfl | decide | simp [WShape.has, WShape.arms, WShape.armsAll])
    (show (WTm.eq .res (.lit (.bool true))).value [] { args := args, res := some (.bool true), after := args } = some (.bool (true == true)) from w_eq_bool (w_res rfl) w_lit) rfl

/-! ### the attachment: holds_open's last premise (the goal 'hc' behind k_head) from a wpAny of the law's body -/
/-- the same from a codeAny of the CALL (for a layer whose function contracts speak of calls) -/
theorem attach_call {l : OpenLaw} {n : Nat} {q : Program} {loose : List Str} {XP : (Str → Option Value) → Heap → Prop} {YP : World → Heap → Prop} {d : DefRec}
    (hn : l.most = some n) (hdf : d.params.defaults = [])
    (call : ∀ (w : World) (s₀ s₁ : Shared) (mg mb : Str → Option Value) (fa : Addr) (o : Obj) (pm cd doc : Value) (a : Addr) (vs : List Value) (ns : List Int),
      Ground q loose [] XP w s₀ mg mb s₁.heap → YP w s₁.heap →
      s₁.heap.get? fa = some o → o.data = .func (docDef d.name d.params d.body d.scope pm cd doc) → s₁.heap.CodeRec cd d.name → mg d.name = some (.ref fa) →
      s₁.heap.get? a = some { cls := .type "list", data := .seq vs.toArray } → IntsAre vs ns → ns.length ≤ n → s₁.gens = #[] →
      codeAny (model l.prog w) callerA (.call (.ref fa) ⟨[.ref a], []⟩) (fun r s' => r = .ok (.ret (.bool true)) ∧ OldK s₁.heap s'.heap ∧ s'.os = s₁.os ∧ AllBare s'.gens) s₁) :
    WalkO q loose XP YP l.row.toRowW d [] (fun f vs => PySem.call f vs) := by
  intro w s₀ s₁ mg mb G Y fa o pm cd doc dV kV ho hd hcd hD hmg hg args vals as hpre hlay hrd hwl hlo
  obtain rfl : dV = .none := Dflts.none hD hdf
  obtain rfl : kV = .none := Dflts.noKw hD
  obtain ⟨a, vs, ns, rfl, rfl, hobj, hints, hlen⟩ := script_of hn hpre hwl
  refine enter_call (codeAny_mono (call w s₀ s₁ mg mb fa o pm cd doc a vs ns G Y ho (fd_plain hd) hcd hmg hobj hints hlen hg) fun r s' hq => ?_)
  obtain ⟨rfl, h2, h3, h4⟩ := hq
  exact ⟨.inl ⟨.bool true, .bool true, [], rfl, fun _ => rfl, .bool true, post_true l _, fun _ => ⟨List.Pairwise.nil, fun _ hm => (nomatch hm)⟩⟩, h2, h3, h4⟩

/-! ### rules over ANY heap (no ledger) from facts about the written part K: the library's own take a ledger (News) for what they write -/
section
variable {prog : Program} {w : World} {A : Around} {E : Value → Shared → Prop} {s : Shared} {K : Frag}

/-! the whole heap as the ledger: makes every rule that writes through a ledger a rule over any heap -/
def noObjs (h : Heap) : Heap := { h with objs := #[] }
def ledger (h : Heap) (L d : Addr) : List (Addr × Obj) := (List.range h.objs.size).filterMap fun a => if a = L ∨ a = d then none else (h.get? a).map fun o => (a, o)
end
end Att

namespace L2
open PySem PySem.Spec PyProof.Rows

theorem vals_ints : ∀ {vs : List Value} {ns : List Int}, IntsAre vs ns → Vals (ns.map V.int) vs
  | _, _, .nil => .nil
  | _, _, .cons n t h => .cons ⟨t, rfl⟩ (vals_ints h)

/-- nothing is tracked but the script, known to the object (or it is an object of the module) -/
def Only (H : Hp) : Prop := ∀ b, H b = none ∨ ∃ o xs, H b = some (.frz o (.lst xs))

end L2

namespace L2
open PySem PySem.Spec PyProof.Rows

abbrev KOf {K : PySem.W.Frag} {h : Heap} (_ : K.In h) : PySem.W.Frag := K

end L2

/- THE LAST THEOREM (shape; LID, My.* are yours):
   My.Adr: a structure of the addresses that your layer names (classes, functions); My.Txt K t: a structure (Prop) of the equations over K;
   My.txt_mk : {K} {implicit addresses ..} (e1 : nsIn K mainGlobals "law" = some (some (.ref f))) (e2 : K.lookup f = some ⟨oc, od, .func (fnOf "law" "law" params body scope dV kV doc pm an cdv ct), sl⟩) (e3 : codeIn K cdv "law" = true) .. : ∃ t, My.Txt K t

set_option maxRecDepth 100000 in
set_option maxHeartbeats 0 in
theorem PySem.Challenge.cw_LID_holds : PySem.Challenge.rw_LID.Holds := by
  w_on; o_law; k_head; (case hw => w_witness2)
  k_fill
  refine L2.walk_of (l := PySem.Challenge.rw_LID) (n := 63) (k := 40) (x := "script") (CX := fun w => ..) (sp := fun _ => My.sp_law) rfl (by decide) rfl ⟨rfl, by decide, by decide⟩ (fun w h Y => PySem.W.kIn_of Y) ?F ?S ?C
  case F =>
    intro w mg fa h KX G hmg
    have T : ∃ t, My.Txt (L2.KOf KX) t := by
      dsimp only [L2.KOf]                          -- K must stand as «<heap const> w.params» for k_is
      refine' My.txt_mk ?e1 ?e2 ?e3 ..
      (case e1 => PySem.W.k_is)                    -- in the order: a name -> its address -> its object -> its parts
      (case e2 => PySem.W.k_is)
      ..
    obtain ⟨t, T⟩ := T
    have e0 := hmg.symm.trans (PySem.W.mg_of KX G T.law)
    cases e0                                       -- fa is the law's own address
    exact ⟨_, fun s u => .of_eq rfl, fun base kb nb => My.law_fn T kb nb⟩     -- if «.of_eq rfl» comes too early: refine' ⟨_, ?b, fun base kb nb => My.law_fn T kb nb⟩; exact fun s u => .of_eq rfl
  case S => exact fun w H a ns hl hO hS => ..
  case C => exact ..
(the tactic k_is has no namespace: write k_is) -/

/-! SHORT WORDS over the layer: a def of the text, its body, what a loop and a test want. -/
namespace L2
open PySem PySem.Spec PyProof.Rows

/-! ### the text by places -/
/-- the j-th statement of a class's body -/
def inClass (s : Stmt) (j : Nat) : Stmt := match s with
  | .ClassDef _ _ _ body _ _ _ _ _ _ _ => body.getD j (.Pass ⟨0, 0, 0, 0⟩)
  | _ => .Pass ⟨0, 0, 0, 0⟩
def defArgs (s : Stmt) : Arguments := match s with
  | .FunctionDef _ a _ _ _ _ _ _ _ _ => a
  | _ => { posonlyargs := [], args := [], vararg := none, kwonlyargs := [], kw_defaults := [], kwarg := none, defaults := [] }
def defBody (s : Stmt) : List Stmt := match s with
  | .FunctionDef _ _ b _ _ _ _ _ _ _ => b
  | _ => []
def defScope (s : Stmt) : Scope := match s with
  | .FunctionDef _ _ _ _ _ _ sc _ _ _ => sc
  | _ => { kind := .function, names := [], isGenerator := false, isCoroutine := false }

/-! ### no exception leaves a def -/
abbrev CX0 : CXT := fun _ _ _ _ _ _ => False
abbrev E0 : XK := fun _ _ _ => False
theorem pass0 {X : Cx} : Passes CX0 X E0 := fun _ _ _ _ _ _ _ h => h.elim

/-! ### a def (or method) of the text as it stands behind the top -/
structure Fun (K : PySem.W.Frag) (x qual : Str) (st : Stmt) (f : Addr) (fd : FuncData) : Prop where
  ex : ∃ (oc : Value) (od : Option Addr) (kV doc pm : Value) (an : Option Addr) (cdv ct : Value) (osl : Array (Option Value)),
    fd = PySem.W.fnOf x qual (defArgs st) (defBody st) (defScope st) .none kV doc pm an cdv ct ∧ K.lookup f = some ⟨oc, od, .func fd, osl⟩ ∧ PySem.W.codeIn K cdv qual = true
  kp : PySem.W.keepIn K (.ref f) = true
section
variable {P : Program} {w : World} {K : PySem.W.Frag} {mg : Str → Option Value} {base : Heap}
/-- THE RULE for a def: its body as a term of rules, and the reading of that term -/
theorem Fun.ok {x qual : Str} {st : Stmt} {f : Addr} {fd : FuncData} {N ps : List Str} {k : Nat} {sp : Sp} (F : Fun K x qual st f fd) (S : FnScope N ps (defScope st)) (len : ∀ vs H Q E, sp vs H Q E → vs.length = ps.length)
    (hbody : ∀ (cdv : Value) (A : Around) (outer : List Env) (s : Shared) (H : Hp) (vs : List V) (Q : VK) (E : XK), Room k (A.deeper (envOfC qual (defScope st) s.heap.objs.size f cdv)) → sp vs H Q E →
      ∃ t, PSs (cxOf CX0 P w K mg base N qual (defScope st) f cdv A outer s H E).nox (defBody st) t ∧ t { nx := fun _ H' => Q .non H', rt := Q } (start N vs) H) : FnOk P w K mg base CX0 (k + 1) f fd ps sp := by
  obtain ⟨oc, od, kV, doc, pm, an, cdv, ct, osl, rfl, lk, hcd⟩ := F.ex
  refine fn_of lk hcd S len fun A outer s H vs Q E hr hsp => ?_
  obtain ⟨t, h, q⟩ := hbody cdv A outer s H vs Q E hr hsp
  exact ⟨t, h.nox, q⟩
/-- how its arguments bind (no defaults): h is «fun _ _ _ _ _ _ us hl => match us, hl with | [_, _], _ => rfl», one _ a parameter -/
theorem Fun.binds {x qual : Str} {st : Stmt} {f : Addr} {fd : FuncData} {ps : List Str} (F : Fun K x qual st f fd)
    (h : ∀ (kV doc pm : Value) (an : Option Addr) (cdv ct : Value) (us : List Value), us.length = ps.length → bindArgs (PySem.W.fnOf x qual (defArgs st) (defBody st) (defScope st) .none kV doc pm an cdv ct) ⟨us, []⟩ = pure (ps.zip us)) : Binds K fd ps [] := by
  obtain ⟨oc, od, kV, doc, pm, an, cdv, ct, osl, rfl, lk, hcd⟩ := F.ex
  exact .all (h kV doc pm an cdv ct)
theorem fun_mk {x qual : Str} {st : Stmt} {f : Addr} {oc : Value} {od an : Option Addr} {osl : Array (Option Value)} {kV doc pm cdv ct : Value} (l : K.lookup f = some ⟨oc, od, .func (PySem.W.fnOf x qual (defArgs st) (defBody st) (defScope st) .none kV doc pm an cdv ct), osl⟩)
    (c : PySem.W.codeIn K cdv qual = true) (k : PySem.W.keepIn K (.ref f) = true) : Fun K x qual st f (PySem.W.fnOf x qual (defArgs st) (defBody st) (defScope st) .none kV doc pm an cdv ct) := ⟨⟨oc, od, kV, doc, pm, an, cdv, ct, osl, rfl, l, c⟩, k⟩
end
theorem hu_of {A : Around} {k : Nat} (hr : Room k A) : A.units + 1 < cLine := Nat.lt_of_le_of_lt (Nat.add_le_add_left (by decide : 1 ≤ 64) _) hr.units
theorem small1000 {n : Nat} (h : n ≤ 1000) : n < sizeLine := Nat.lt_of_le_of_lt h (by decide)

/-! ### expressions in short: the name that stands in the i-th slot -/
section
variable {X : Cx}
theorem pv (i : Nat) {x : Str} {pos : Pos} (hN : X.N[i]? = some x := by rfl) (hv : Vis X.env.scope x := by first | exact Or.inl rfl | exact Or.inr (Or.inl rfl) | exact Or.inr (Or.inr rfl)) (hd : (x == ("__debug__" : Str)) = false := by decide)
    (hcd : (x == ("__classdict__" : Str)) = false := by decide) : PE X (.Name x pos) (tVar i) := pe_var hN hv hd hcd
end

/-! ### tests -/
theorem iteF {A B : Prop} (h : B) : if false = true then A else B := by
  rw [if_neg Bool.false_ne_true]
  exact h
theorem iteT {A B : Prop} (h : A) : if true = true then A else B := by
  rw [if_pos rfl]
  exact h
theorem ite2 {c A B : Prop} [Decidable c] (h1 : c → A) (h2 : ¬ c → B) : if c then A else B := by
  by_cases h : c
  · rw [if_pos h]
    exact h1 h
  · rw [if_neg h]
    exact h2 h
/-! ### heaps -/
/-- all that was tracked is as it was -/
def Same (H H' : Hp) : Prop := ∀ b o, H b = some o → H' b = some o
theorem Same.refl (H : Hp) : Same H H := fun _ _ h => h
theorem Same.trans {H H1 H2 : Hp} (a : Same H H1) (b : Same H1 H2) : Same H H2 := fun c o h => b c o (a c o h)
theorem Same.free {H H' : Hp} (e : Same H H') {l : Addr} (h : H' l = Option.none) : H l = Option.none := by
  cases q : H l with
  | none => rfl
  | some o =>
    rw [e l o q] at h
    cases h
theorem Same.seq {K : PySem.W.Frag} {H H' : Hp} {a : Addr} {xs : List V} (e : Same H H') (h : SqL K H a xs) : SqL K H' a xs := by
  rcases h with (h | ⟨o, h⟩) | h
  · exact .inl (.inl (e _ _ h))
  · exact .inl (.inr ⟨o, e _ _ h⟩)
  · exact .inr h

end L2

namespace GM
/-- the greatest common divisor, as an int -/
def G (a b : Int) : Int := (Int.gcd a b : Int)
theorem G_zero {a : Int} (h : 0 ≤ a) : G a 0 = a := by
  unfold G
  rw [Int.gcd_zero_right]
  omega
theorem G_step (a b : Int) : G b (a % b) = G a b := by
  unfold G
  congr 1
  have e : a % b = a - b * (a / b) := by
    have := Int.emod_add_mul_ediv a b
    omega
  rw [e, Int.gcd_sub_mul_left_right, Int.gcd_comm]
theorem G_pos {a b : Int} (h : 0 < b) : 0 < G a b := by
  unfold G
  have : 0 < Int.gcd a b := Int.gcd_pos_of_ne_zero_right a (by omega)
  omega
theorem G_dvd_l (a b : Int) : G a b ∣ a := Int.gcd_dvd_left a b
theorem G_dvd_r (a b : Int) : G a b ∣ b := Int.gcd_dvd_right a b
theorem G_le_r {a b : Int} (h : 0 < b) : G a b ≤ b := Int.le_of_dvd h (G_dvd_r a b)
/-- an amount in lowest terms -/
structure Amt (t b : Int) : Prop where
  t0 : 0 ≤ t
  b1 : 1 ≤ b
  g : G t b = 1
theorem low_amt {t b : Int} (h0 : 0 ≤ t) (h1 : 1 ≤ b) : Amt (t / G t b) (b / G t b) := by
  have gp := G_pos (a := t) (b := b) (by omega)
  refine ⟨Int.ediv_nonneg h0 (by omega), Int.ediv_pos_of_pos_of_dvd (by omega) (by omega) (G_dvd_r t b), ?_⟩
  unfold G at *
  have := Int.gcd_ediv_gcd_ediv_gcd (i := t) (j := b) (by omega)
  omega
theorem low_l (t b : Int) : t / G t b * G t b = t := Int.ediv_mul_cancel (G_dvd_l t b)
theorem low_r (t b : Int) : b / G t b * G t b = b := Int.ediv_mul_cancel (G_dvd_r t b)
theorem dvd_cop {t b x : Int} (h : Amt t b) (d : b ∣ t * x) : b ∣ x := by
  have g1 : Int.gcd b t = 1 := by have := h.g; unfold G at this; rw [Int.gcd_comm]; omega
  have := Int.dvd_gcd_mul_iff_dvd_mul.mpr d
  rw [g1] at this
  simpa using this
theorem amt_unique {t b t' b' : Int} (h : Amt t b) (h' : Amt t' b') (e : t * b' = t' * b) : t = t' ∧ b = b' := by
  have d1 : b ∣ b' := dvd_cop h ⟨t', by rw [e, Int.mul_comm]⟩
  have d2 : b' ∣ b := dvd_cop h' ⟨t, by rw [← e, Int.mul_comm]⟩
  have p := h.b1
  have p' := h'.b1
  have eb : b = b' := Int.dvd_antisymm (by omega) (by omega) d1 d2
  subst eb
  exact ⟨Int.eq_of_mul_eq_mul_right (by omega) e, rfl⟩
/-- brought to lowest terms, the same fraction -/
theorem low_cross (t b : Int) : t / G t b * b = t * (b / G t b) := by
  have e1 := low_l t b
  have e2 := low_r t b
  calc t / G t b * b = t / G t b * (b / G t b * G t b) := by rw [e2]
    _ = t / G t b * G t b * (b / G t b) := by rw [Int.mul_comm (b / G t b), Int.mul_assoc]
    _ = t * (b / G t b) := by rw [e1]
theorem amt_one {t : Int} (h : 0 ≤ t) : Amt t 1 := by
  refine ⟨h, by omega, ?_⟩
  unfold G
  rw [Int.gcd_one_right]
  rfl
theorem low_unique {t b x y : Int} (h0 : 0 ≤ t) (h1 : 1 ≤ b) (h : Amt x y) (e : x * b = t * y) : t / G t b = x ∧ b / G t b = y := by
  have a := low_amt h0 h1
  refine amt_unique a h ?_
  have c := low_cross t b
  -- (t/g) * b = t * (b/g); x * b = t * y
  have gp := G_pos (a := t) (b := b) (by omega)
  have e1 := low_l t b
  have e2 := low_r t b
  refine Int.eq_of_mul_eq_mul_right (a := G t b) (by omega) ?_
  calc t / G t b * y * G t b = t / G t b * G t b * y := by rw [Int.mul_assoc, Int.mul_comm y, ← Int.mul_assoc]
    _ = x * b := by rw [e1, e]
    _ = x * (b / G t b) * G t b := by rw [Int.mul_assoc, e2]
end GM

namespace L2
open PySem PySem.Spec PyProof.Rows
/-! ### isinstance against a built-in type -/
inductive Isi (K : PySem.W.Frag) (H : Hp) : V → String → Bool → Prop where
  | int_int {n} : Isi K H (.int n) "int" true
  | int_bool {n} : Isi K H (.int n) "bool" false
  | int_tuple {n} : Isi K H (.int n) "tuple" false
  | int_str {n} : Isi K H (.int n) "str" false
  | int_list {n} : Isi K H (.int n) "list" false
  | bl_int {b} : Isi K H (.bl b) "int" true
  | bl_bool {b} : Isi K H (.bl b) "bool" true
  | bl_tuple {b} : Isi K H (.bl b) "tuple" false
  | bl_str {b} : Isi K H (.bl b) "str" false
  | str_int {x} : Isi K H (.str x) "int" false
  | str_bool {x} : Isi K H (.str x) "bool" false
  | str_tuple {x} : Isi K H (.str x) "tuple" false
  | str_str {x} : Isi K H (.str x) "str" true
  | non_int : Isi K H .non "int" false
  | non_str : Isi K H .non "str" false
  | non_tuple : Isi K H .non "tuple" false
  | tup_tuple {a xs} : SqT K H a xs → Isi K H (.ref a) "tuple" true
  | tup_int {a xs} : SqT K H a xs → Isi K H (.ref a) "int" false
  | tup_str {a xs} : SqT K H a xs → Isi K H (.ref a) "str" false
  | tup_list {a xs} : SqT K H a xs → Isi K H (.ref a) "list" false
  | lst_tuple {a xs} : SqL K H a xs → Isi K H (.ref a) "tuple" false
  | lst_int {a xs} : SqL K H a xs → Isi K H (.ref a) "int" false
  | lst_str {a xs} : SqL K H a xs → Isi K H (.ref a) "str" false
  | lst_list {a xs} : SqL K H a xs → Isi K H (.ref a) "list" true
section
variable {X : Cx}
theorem call_isi : CallR X (.builtin "isinstance") (fun xs H Q => ∃ x T b, xs = [x, .ty T] ∧ Isi X.K H x T b ∧ Q (.bl b) H) := by
  intro pins s σ H xs us Q I r h
  obtain ⟨x, T, b, rfl, hi, q⟩ := h
  obtain ⟨u, w', rfl, rx, ry⟩ := vals2 r
  cases ry
  have f1 : EP X pins σ Q (.bool b) s := ⟨.bl b, H, I, rfl, q⟩
  have f2 : EP X pins σ Q (.bool b) { s with toks := s.toks + 1 } := ⟨.bl b, H, I.tok _, rfl, q⟩
  cases hi with
  | int_int => obtain ⟨t, rfl⟩ := rx; exact IsiPair.int_int f1
  | int_bool => obtain ⟨t, rfl⟩ := rx; exact IsiPair.int_bool f2
  | int_tuple => obtain ⟨t, rfl⟩ := rx; exact IsiPair.int_tuple f2
  | int_str => obtain ⟨t, rfl⟩ := rx; exact IsiPair.int_str f2
  | int_list => obtain ⟨t, rfl⟩ := rx; exact IsiPair.int_list f2
  | bl_int => cases rx; exact IsiPair.bool_int f1
  | bl_bool => cases rx; exact IsiPair.bool_bool f1
  | bl_tuple => cases rx; exact IsiPair.bool_tuple f2
  | bl_str => cases rx; exact IsiPair.bool_str f2
  | str_int => obtain ⟨t, rfl⟩ := rx; exact IsiPair.str_int f2
  | str_bool => obtain ⟨t, rfl⟩ := rx; exact IsiPair.str_bool f2
  | str_tuple => obtain ⟨t, rfl⟩ := rx; exact IsiPair.str_tuple f2
  | str_str => obtain ⟨t, rfl⟩ := rx; exact IsiPair.str_str f1
  | non_int => cases rx; exact IsiPair.NoneType_int f2
  | non_str => cases rx; exact IsiPair.NoneType_str f2
  | non_tuple => cases rx; exact IsiPair.NoneType_tuple f2
  | tup_tuple hq => cases rx; obtain ⟨its, _, ⟨o, e, c, _⟩, _⟩ := I.tuple hq; exact IsiPair.tuple_tuple e c f1
  | tup_int hq => cases rx; obtain ⟨its, _, ⟨o, e, c, _⟩, _⟩ := I.tuple hq; exact IsiPair.tuple_int e c f2
  | tup_str hq => cases rx; obtain ⟨its, _, ⟨o, e, c, _⟩, _⟩ := I.tuple hq; exact IsiPair.tuple_str e c f2
  | tup_list hq => cases rx; obtain ⟨its, _, ⟨o, e, c, _⟩, _⟩ := I.tuple hq; exact IsiPair.tuple_list e c f2
  | lst_tuple hq => cases rx; obtain ⟨its, _, ⟨o, n, e, c, _⟩, _⟩ := I.list hq; exact IsiPair.list_tuple e c f2
  | lst_int hq => cases rx; obtain ⟨its, _, ⟨o, n, e, c, _⟩, _⟩ := I.list hq; exact IsiPair.list_int e c f2
  | lst_str hq => cases rx; obtain ⟨its, _, ⟨o, n, e, c, _⟩, _⟩ := I.list hq; exact IsiPair.list_str e c f2
  | lst_list hq => cases rx; obtain ⟨its, _, ⟨o, n, e, c, _⟩, _⟩ := I.list hq; exact IsiPair.list_list e c f1
/-! ### is, is not of bools -/
/-! ### == and != of tuples, at any depth: what the comparison tells -/
inductive DEq (K : PySem.W.Frag) (H : Hp) : Nat → V → V → Bool → Prop where
  | flat {n x y} : flatV x = true → flatV y = true → DEq K H n x y (eqV x y)
  | same {n a} : DEq K H n (.ref a) (.ref a) true
  | tup {n a b xs ys} {e : Nat → Bool} : a ≠ b → SqT K H a xs → SqT K H b ys → (∀ (j : Nat) x y, xs[j]? = some x → ys[j]? = some y → DEq K H n x y (e j)) →
      DEq K H (n + 1) (.ref a) (.ref b) ((List.range (min xs.length ys.length)).all e && xs.length == ys.length)
  | lst {n a b xs ys} {e : Nat → Bool} : a ≠ b → SqL K H a xs → SqL K H b ys → (∀ (j : Nat) x y, xs[j]? = some x → ys[j]? = some y → DEq K H n x y (e j)) →
      DEq K H (n + 1) (.ref a) (.ref b) ((List.range (min xs.length ys.length)).all e && xs.length == ys.length)
theorem tups_at {pins : List (Addr × Obj)} {σ : St} {H : Hp} {s : Shared} (I : Inv X pins σ H s) {A : Around} {a b : Addr} {xs ys : List V} {e : Nat → Bool} (hx : SqT X.K H a xs) (hy : SqT X.K H b ys) (hu : A.units < cLine)
    (hd : ∀ (j : Nat) x y u v, xs[j]? = some x → ys[j]? = some y → RelV x u → RelV y v → SeqAt.EqAt A.in1 s u v (e j)) :
    SeqAt.RcAt A s (.ref a) (.ref b) ((List.range (min xs.length ys.length)).all e && xs.length == ys.length) := by
  obtain ⟨its, r, tx, _⟩ := I.tuple hx
  obtain ⟨its', r', ty, _⟩ := I.tuple hy
  have l1 := r.length
  have l2 := r'.length
  have q := SeqAt.RcAt.tuples (A := A) (e := e) tx ty hu (fun j h1 h2 => ?_)
  · rw [List.size_toArray, List.size_toArray, ← l1, ← l2] at q
    exact q
  · rw [List.size_toArray] at h1 h2
    obtain ⟨x, hxj⟩ : ∃ x, xs[j]? = some x := ⟨_, List.getElem?_eq_getElem (by omega)⟩
    obtain ⟨y, hyj⟩ : ∃ y, ys[j]? = some y := ⟨_, List.getElem?_eq_getElem (by omega)⟩
    obtain ⟨u1, hu1, ru1⟩ := r.get hxj
    obtain ⟨u2, hu2, ru2⟩ := r'.get hyj
    have e1 : its.toArray[j] = u1 := by
      have := (List.getElem?_eq_some_iff.mp hu1).2
      simpa using this
    have e2 : its'.toArray[j] = u2 := by
      have := (List.getElem?_eq_some_iff.mp hu2).2
      simpa using this
    rw [e1, e2]
    exact hd j x y u1 u2 hxj hyj ru1 ru2
theorem isList_of {h : Heap} {a : Addr} {its : Array Value} (p : PlainL h a its) : h.IsList a its := by
  obtain ⟨o, n, e, c, _, d⟩ := p
  exact ⟨o, e, c, n, d⟩
theorem lsts_at {pins : List (Addr × Obj)} {σ : St} {H : Hp} {s : Shared} (I : Inv X pins σ H s) {A : Around} {a b : Addr} {xs ys : List V} {e : Nat → Bool} (hx : SqL X.K H a xs) (hy : SqL X.K H b ys) (hu : A.units < cLine)
    (hd : ∀ (j : Nat) x y u v, xs[j]? = some x → ys[j]? = some y → RelV x u → RelV y v → SeqAt.EqAt A.in1 s u v (e j)) :
    SeqAt.RcAt A s (.ref a) (.ref b) ((List.range (min xs.length ys.length)).all e && xs.length == ys.length) := by
  obtain ⟨its, r, tx, _⟩ := I.list hx
  obtain ⟨its', r', ty, _⟩ := I.list hy
  have l1 := r.length
  have l2 := r'.length
  by_cases hl : xs.length = ys.length
  · have q := SeqAt.RcAt.lists (A := A) (e := e) (isList_of tx) (isList_of ty) (by rw [List.size_toArray, List.size_toArray]; omega) hu (fun j h1 h2 => ?_)
    · rw [List.size_toArray, ← l1] at q
      have e1 : ((List.range (min xs.length ys.length)).all e && xs.length == ys.length) = (List.range xs.length).all e := by
        rw [← hl, Nat.min_self, beq_self_eq_true, Bool.and_true]
      rw [e1]
      exact q
    · rw [List.size_toArray] at h1 h2
      obtain ⟨x, hxj⟩ : ∃ x, xs[j]? = some x := ⟨_, List.getElem?_eq_getElem (by omega)⟩
      obtain ⟨y, hyj⟩ : ∃ y, ys[j]? = some y := ⟨_, List.getElem?_eq_getElem (by omega)⟩
      obtain ⟨u1, hu1, ru1⟩ := r.get hxj
      obtain ⟨u2, hu2, ru2⟩ := r'.get hyj
      have e1 : its.toArray[j] = u1 := by
        have := (List.getElem?_eq_some_iff.mp hu1).2
        simpa using this
      have e2 : its'.toArray[j] = u2 := by
        have := (List.getElem?_eq_some_iff.mp hu2).2
        simpa using this
      rw [e1, e2]
      exact hd j x y u1 u2 hxj hyj ru1 ru2
  · have q := SeqAt.RcAt.lists_lengths (A := A) (isList_of tx) (isList_of ty) (by rw [List.size_toArray, List.size_toArray, ← l1, ← l2, bne_iff_ne]; exact hl) hu
    have e1 : ((List.range (min xs.length ys.length)).all e && xs.length == ys.length) = false := by
      rw [beq_eq_false_iff_ne.mpr hl, Bool.and_false]
    rw [e1]
    exact q
theorem DEq.at {pins : List (Addr × Obj)} {σ : St} {H : Hp} {s : Shared} (I : Inv X pins σ H s) {n : Nat} {x y : V} {k : Bool} (d : DEq X.K H n x y k) : ∀ {A : Around} {u v : Value}, A.units + n < cLine → RelV x u → RelV y v → SeqAt.EqAt A s u v k := by
  induction d with
  | flat fx fy => intro A u v _ rx ry; exact eqAt_V rx ry fx fy
  | same => intro A u v _ rx ry; cases rx; cases ry; exact SeqAt.EqAt.same _
  | @tup n a b xs ys e hne hx hy hd ih =>
    intro A u v hu rx ry
    cases rx; cases ry
    exact SeqAt.EqAt.of_refs hne (tups_at I hx hy (by omega) fun j x y u v h1 h2 r1 r2 => ih j x y h1 h2 (by show A.units + 1 + n < cLine; omega) r1 r2)
  | @lst n a b xs ys e hne hx hy hd ih =>
    intro A u v hu rx ry
    cases rx; cases ry
    exact SeqAt.EqAt.of_refs hne (lsts_at I hx hy (by omega) fun j x y u v h1 h2 r1 r2 => ih j x y h1 h2 (by show A.units + 1 + n < cLine; omega) r1 r2)
/-- == of two tuples; the items' answers e -/
def rEqT (K : PySem.W.Frag) : R2 := fun x y H Q => ∃ a b xs ys, ∃ e : Nat → Bool, x = .ref a ∧ y = .ref b ∧ SqT K H a xs ∧ SqT K H b ys ∧ (∀ (j : Nat) x y, xs[j]? = some x → ys[j]? = some y → DEq K H 40 x y (e j)) ∧
  Q (.bl ((List.range (min xs.length ys.length)).all e && xs.length == ys.length)) H
def rNeT (K : PySem.W.Frag) : R2 := fun x y H Q => ∃ a b xs ys, ∃ e : Nat → Bool, x = .ref a ∧ y = .ref b ∧ SqT K H a xs ∧ SqT K H b ys ∧ (∀ (j : Nat) x y, xs[j]? = some x → ys[j]? = some y → DEq K H 40 x y (e j)) ∧
  Q (.bl (!((List.range (min xs.length ys.length)).all e && xs.length == ys.length))) H
theorem op_eqT (hu : X.A.units + 64 < cLine) : OpR X (compareOp .Eq) (rEqT X.K) := by
  intro pins s σ H x y v u Q I rx ry h
  obtain ⟨a, b, xs, ys, e, rfl, rfl, hx, hy, hd, q⟩ := h
  cases rx; cases ry
  exact tups_at I hx hy (by omega) (fun j x y u v h1 h2 r1 r2 => (hd j x y h1 h2).at I (by show X.A.units + 1 + 40 < cLine; omega) r1 r2) X.prog X.w X.xe _ ⟨.bl _, H, I, rfl, q⟩
end
end L2

namespace L2
open PySem PySem.Spec PyProof.Rows
/-! ### a list comprehension of one clause -/
/-- the loop of a comprehension, a turn at a time -/
theorem compLoop_gen {prog : Program} {w : World} {A : Around} {R : Result → Shared → Prop} {s : Shared} {elt target iter : Expr} {ifs : List Expr} {scope : Scope} {pos : Pos} {it acc : Value} {env : Env} (I : Nat → Shared → Prop)
    (turn : ∀ n s, I n s → wpAny (model prog w) A (pyNext it) (fun r s₁ => match r with
      | none => R (.ok .next) s₁
      | some v => wpAny (model prog w) A (letOwnedTupleGo target it v) (fun _ s₁' => wpAny (model prog w) A (assign target env v) (fun _ s₂ =>
          wpAny (model prog w) A (forIn ifs true fun c r => if r = true then do let ok ← isTrue c env (eval c env); pure (ForInStep.yield ok) else pure (ForInStep.yield r)) (fun ok s₃ =>
            if ok = true then wpAny (model prog w) A (eval elt env) (fun x s₄ =>
              wpAny (model prog w) A (call (.builtin "list.append") [acc, x]) (fun _ s₅ => ∃ m, m < n ∧ I m s₅) (fun _ _ => False) s₄) (fun _ _ => False) s₃
            else ∃ m, m < n ∧ I m s₃) (fun _ _ => False) s₂) (fun _ _ => False) s₁') (fun _ _ => False) s₁) (fun _ _ => False) s)
    (n : Nat) (h : I n s) : codeAny (model prog w) A (.compLoop (.ListComp elt [⟨target, iter, ifs, 0⟩] scope pos) 0 it acc env) R s := by
  refine codeAny_loop rfl I (fun n s hI => ?_) n h
  show wpAny _ A ((compTurn (.ListComp elt [⟨target, iter, ifs, 0⟩] scope pos) 0 it acc env).onRaise (fun x => do noteFrame x env; theTreesLotGoes x)) _ _ s
  refine wpAny_noted ?_
  rw [compTurn_list]
  refine wpAny_bind (wpAny_standAt (wpAny_bind (wpAny_mono (turn n s hI) (fun r s₁ h₁ => ?_) fun _ _ z => z.elim)))
  cases r with
  | none => exact wpAny_pure h₁
  | some v =>
    refine wpAny_bind (wpAny_mono h₁ (fun _ s₁' h₁' => ?_) fun _ _ z => z.elim)
    refine wpAny_bind (wpAny_mono h₁' (fun _ s₂ h₂ => wpAny_bind (wpAny_mono h₂ (fun ok s₃ h₃ => ?_) fun _ _ z => z.elim)) fun _ _ z => z.elim)
    cases ok with
    | false => exact wpAny_pure ⟨rfl, h₃⟩
    | true =>
      exact wpAny_bind (wpAny_bind (wpAny_mono h₃ (fun x s₄ h₄ => wpAny_bind (wpAny_mono h₄ (fun _ s₅ h₅ => wpAny_pure (wpAny_pure ⟨rfl, h₅⟩)) fun _ _ z => z.elim)) fun _ _ z => z.elim))
/-- the block's context -/
def blk (X : Cx) (N' : List Str) (scope : Scope) (cl : List (Str × Addr)) (C : Addr) (s₀ : Shared) (H₀ : Hp) (ex : List Addr) (pn : List (Addr × Obj)) : Cx where
  prog := X.prog
  w := X.w
  K := X.K
  mg := X.mg
  base := X.base
  A := X.A
  N := N'
  s₀ := s₀
  H₀ := H₀
  env := compEnvC scope cl C X.env
  outer := X.stack
  stack := X.stack
  ex := ex
  fn := fun _ => false
  calm := X.calm
  pn := pn
  xe := fun _ _ => False
structure ClOk (X : Cx) (scope : Scope) (cl : List (Str × Addr)) : Prop where
  run : closureFor scope X.env = pure cl
  sub : ∀ x c, cl.lookup x = some c → X.env.cells.lookup x = some c
  has : ∀ x, ((relabel scope X.env).names.lookup x = some .cell ∨ (relabel scope X.env).names.lookup x = some .free) → ∃ c, cl.lookup x = some c
/-- the names that the block takes over stand in cells -/
structure BlkN (X : Cx) (N' : List Str) (scope : Scope) (cl : List (Str × Addr)) (σ σ' : St) : Prop where
  len : σ'.length = N'.length
  from' : ∀ (i : Nat) (x : Str) (v : V), N'[i]? = some x → σ'[i]? = some (some v) → ∃ j : Nat, X.N[j]? = some x ∧ σ[j]? = some (some v) ∧ Vis X.env.scope x ∧ X.env.kindOf x ≠ some .local ∧
    ((relabel scope X.env).names.lookup x = some .cell ∨ (relabel scope X.env).names.lookup x = some .free)
section
variable {X : Cx} {pins : List (Addr × Obj)} {σ σ' : St} {H : Hp} {s : Shared}
theorem blk_start {N' : List Str} {scope : Scope} {cl : List (Str × Addr)} {fp : List Addr} {h₁ : Heap} {t' : Nat} (I : Inv X pins σ H s) (hkind : scope.kind = .function) (hcl : ClOk X scope cl) (hN : BlkN X N' scope cl σ σ') (hf : ∀ b ∈ fp, FpOk X pins H b) (hfo : ∀ b ∈ fp, b < s.heap.objs.size)
    (hns : h₁.Ns s.heap.objs.size (fun _ => none)) (hk : ∀ b o, s.heap.get? b = some o → h₁.get? b = some o) :
    Inv (blk X N' scope cl s.heap.objs.size s H fp (X.pn ++ pins)) [] σ' H { s with heap := h₁, toks := t' } := by
  have hfs : ∀ b, b ∉ (X.env.locals :: X.fs) → b ∉ frs X.stack := fun b hb z => hb (I.stkSub b z)
  refine ⟨⟨I.ok.mod, hkind, I.ok.glob, I.ok.blt, Nat.le_refl _, ?_, hcl.has, fun _ _ h => absurd h (by intro z; cases z), I.ok.hd, I.ok.frames, .inl rfl, ?_, I.bs, Nat.le_trans I.ok.bsz I.sz, ?_, ?_, I.stack, I.stkFree⟩,
    rfl, I.bare, Un.kept hk, ⟨_, hns, ?_⟩, ?_, I.hok.fresh (Nat.le_refl _), fun x c e => I.freeC x c (hcl.sub x c e), ?_, I.hok.kept hk, hN.len⟩
  · intro x y c h1 h2
    exact I.ok.inj x y c (hcl.sub x c h1) (hcl.sub y c h2)
  · intro b hb
    exact ⟨Nat.ne_of_lt (hfo b hb), fun x c e => (hf b hb).2.2.2.2.1 x c (hcl.sub x c e)⟩
  · intro b o e hb
    rcases (hf b hb).2.2.2.1 with q | q
    · exact I.ok.noex b o e q
    · exact absurd (Nat.lt_of_lt_of_le (Heap.lt_size e) (Nat.le_trans I.ok.bsz q)) (Nat.lt_irrefl _)
  · intro b hb
    refine hfs b fun z => ?_
    rcases List.mem_cons.mp z with z | z
    · exact (hf b hb).2.1 z
    · exact (hf b hb).2.2.1 z
  · intro i x v h1 h2 _
    obtain ⟨j, hj, hσ, hv, hnl, hk'⟩ := hN.from' i x v h1 h2
    obtain ⟨m, hn, hl⟩ := I.loc
    obtain ⟨u, r, l⟩ := hl j x v hj hσ hv
    refine ⟨u, r, .inr ⟨hk', ?_⟩⟩
    obtain ⟨c, hc⟩ := hcl.has x hk'
    rcases l with ⟨hloc, _⟩ | ⟨_, c', hc', hcell⟩
    · exact absurd hloc hnl
    · have e := hcl.sub x c hc
      rw [hc'] at e
      cases e
      obtain ⟨o, ho, hd⟩ := hcell
      exact ⟨_, hc, o, hk _ _ ho, hd⟩
  · intro x c e
    obtain ⟨v, o, ho, hd⟩ := I.cell x c (hcl.sub x c e)
    exact ⟨v, o, hk _ _ ho, hd⟩
  · intro p hp
    rw [show (blk X N' scope cl s.heap.objs.size s H fp (X.pn ++ pins)).pn = X.pn ++ pins from rfl, List.append_nil] at hp
    obtain ⟨a1, a2, a3, a4, a5⟩ := I.pin p hp
    refine ⟨hk _ _ a1, a2, Nat.ne_of_lt (Heap.lt_size a1), hfs _ fun z => ?_, a5⟩
    rcases List.mem_cons.mp z with z | z
    · exact a3 z
    · exact a4 z
theorem blk_end {N' : List Str} {scope : Scope} {cl : List (Str × Addr)} {fp : List Addr} {pl : List (Addr × Obj)} {H' : Hp} {s' : Shared} {h'' : Heap} (I : Inv X pins σ H s) (hf : ∀ b ∈ fp, FpOk X pins H b)
    (J : Inv (blk X N' scope cl s.heap.objs.size s H fp (X.pn ++ pins)) pl σ' H' s') (hs : Heap.SameBut s.heap.objs.size s'.heap h'') : Inv X pins σ H' { s' with heap := h'' } := by
  have hne : ∀ b o, s.heap.get? b = some o → b ≠ s.heap.objs.size := fun b o e => Nat.ne_of_lt (Heap.lt_size e)
  have hC : H' s.heap.objs.size = none := J.free
  have ub : Un (frs X.stack) fp H H' s.heap s'.heap := J.base
  have u : Un (frs X.stack) fp H H' s.heap h'' := {
    keep := fun b o e n hb hx => hs.extBut b o (hne b o e) (ub.keep b o e n hb hx)
    slot := fun b o e n hb hx => by
      obtain ⟨sl, q⟩ := ub.slot b o e n hb hx
      exact ⟨sl, hs.extBut b _ (hne b o e) q⟩
    free := ub.free
    there := fun b o e hx => by
      obtain ⟨o', q⟩ := ub.there b o e hx
      exact ⟨o', hs.extBut b _ (hne b o e) q⟩
    tups := ub.tups
    frzs := ub.frzs
    tbls := ub.tbls }
  have hok : HOk X.prog X.w H' h'' := fun a o e => (J.hok a o e).stay (fun b ob hb q => hs.extBut b ob (fun z => by
    rw [z] at hb
    rcases hb with hb | hb
    · rw [← hb, hC] at e; cases e
    · rw [hC] at hb; cases hb) q) (fun _ h => h) (fun _ _ h => h)
  exact I.call' (s' := { s' with heap := h'' }) J.os u hok J.bare fun b hb => by
    obtain ⟨f0, f1, f2, f3, f4, f5⟩ := hf b hb
    exact ⟨f3, f1, f4, f5⟩
end
end L2

namespace L2
open PySem PySem.Spec PyProof.Rows
/-- the tests of a clause -/
def PIfs (X : Cx) (ifs : List Expr) (t : TT) : Prop :=
  ∀ (pins : List (Addr × Obj)) (s : Shared) (σ : St) (H : Hp) (Q : Bool → Hp → Prop), Inv X pins σ H s → t σ H Q →
    wpAny (model X.prog X.w) X.A (forIn ifs true fun c r => if r = true then do let ok ← isTrue c X.env (eval c X.env); pure (ForInStep.yield ok) else pure (ForInStep.yield r)) (TP X pins σ Q) X.xe s
def tNoIf : TT := fun _ H Q => Q true H
theorem pifs_nil {X : Cx} : PIfs X [] tNoIf := fun _ _ _ H _ I h => wpAny_tests_nil ⟨H, I, h⟩
theorem pifs_one {X : Cx} {c : Expr} {t : TT} (h : PT X c t) : PIfs X [c] t := fun pins s σ H Q I hw => wpAny_tests_one (h pins s σ H Q I hw)
/-- the slots that were filled are as they were -/
structure Keep (σa σb : St) : Prop where
  len : σb.length = σa.length
  at' : ∀ (i : Nat) (v : V), σa[i]? = some (some v) → σb[i]? = some (some v)
theorem Keep.refl (σ : St) : Keep σ σ := ⟨rfl, fun _ _ h => h⟩
theorem Keep.set {σa σb : St} {i : Nat} {v : V} (k : Keep σa σb) (h : σa[i]? = some none) : Keep σa (σb.set i (some v)) := by
  refine ⟨by rw [List.length_set]; exact k.len, fun j u e => ?_⟩
  have hj : i ≠ j := by
    rintro rfl
    rw [h] at e
    cases e
  rw [List.getElem?_set_ne hj]
  exact k.at' j u e
def tComp (σf : St → St) (wi : TI) (g : TG) (tt : TT) (te : TE) : TE := fun σ H Q => wi σ H fun J H1 => ∀ D, H1 D = none → ∃ W : Nat → Nat → List V → Hp → Prop, (∃ m, W 0 m [] (upd H1 D (.lst []))) ∧
  ∀ i m ys H, W i m ys H → H D = some (.lst ys) ∧ ys.length < sizeLine ∧
    ((J.stop i H ∧ Q (.ref D) H) ∨ (J.go i H ∧ ∀ x H', J.yld i H x H' → g x (σf σ) H' fun σ2 H2 => Keep (σf σ) σ2 ∧ tt σ2 H2 fun b H3 =>
      if b = true then te σ2 H3 fun y H4 => H4 D = some (.lst ys) ∧ ∃ m', m' < m ∧ W (i + 1) m' (ys ++ [y]) (upd H4 D (.lst (ys ++ [y]))) else ∃ m', m' < m ∧ W (i + 1) m' ys H3))
theorem pe_comp {X : Cx} {elt tg iter : Expr} {ifs : List Expr} {scope : Scope} {pos : Pos} {N' : List Str} {cl : List (Str × Addr)} {wi : TI} {g : TG} {tt : TT} {te : TE} (σf : St → St)
    (hc : X.calm = true) (hkind : scope.kind = .function) (hcell : ∀ y ∈ scope.names, y.2 ≠ .cell) (hnames : ∀ y ∈ scope.names, y.2 = .local → scope.names.lookup y.1 = some .local) (hcl : ClOk X scope cl)
    (hN : ∀ σ : St, σ.length = X.N.length → BlkN X N' scope cl σ (σf σ)) (hi : PI X tg iter wi)
    (hg : ∀ C s₀ H₀ ex pn, PG (blk X N' scope cl C s₀ H₀ ex pn) tg g) (ht : ∀ C s₀ H₀ ex pn, PIfs (blk X N' scope cl C s₀ H₀ ex pn) ifs tt) (he : ∀ C s₀ H₀ ex pn, PE (blk X N' scope cl C s₀ H₀ ex pn) elt te)
    (hs : ∀ x, foldedSetIterable iter X.env x = pure x := by intro _; rfl) : PE X (.ListComp elt [⟨tg, iter, ifs, 0⟩] scope pos) (tComp σf wi g tt te) := by
  intro pins s σ H Q I h
  rw [eval_ListComp]
  refine wpAny_comprehension_free (use := none) rfl hs hcl.run hkind hnames (thn (hi pins s σ H _ I h) fun v s1 h1 => thn h1 fun itv s2 h2 => ?_)
  obtain ⟨it, fp, tn, J, H2, rfl, I2, T, st2, f2, q⟩ := h2
  refine wpAny_newObj_type (wpAny_newFunctionEnv hcell (by intro y hy; simp at hy) (fun h₁ hns₁ hsb₁ => ?_) hkind)
  dsimp only at hns₁ hsb₁ ⊢
  have hfo : ∀ b ∈ fp, b < s2.heap.objs.size := fun b hb => by
    obtain ⟨o, e, _⟩ := T.obj _ _ st2 b hb
    exact Heap.lt_size e
  have hDf : H2 s2.heap.objs.size = none := I2.hok.fresh (Nat.le_refl _)
  obtain ⟨W, ⟨m0, w0⟩, turn⟩ := q s2.heap.objs.size hDf
  have I3 : Inv X pins σ (upd H2 s2.heap.objs.size (.lst [])) { s2 with heap := s2.heap.push { cls := .type "list", data := .seq ([] : List Value).toArray } } := I2.lnew (its := []) (t' := s2.toks) .nil (Nat.zero_le _)
  have f3 : ∀ b ∈ fp, FpOk X pins (upd H2 s2.heap.objs.size (.lst [])) b := fun b hb => ⟨by rw [upd_ne (Nat.ne_of_lt (hfo b hb))]; exact (f2 b hb).1, (f2 b hb).2⟩
  generalize hD : s2.heap.objs.size = D at *
  generalize hs3 : ({ s2 with heap := s2.heap.push { cls := .type "list", data := .seq ([] : List Value).toArray } } : Shared) = s3 at *
  have hh3 : s3.heap = s2.heap.push { cls := .type "list", data := .seq ([] : List Value).toArray } := by rw [← hs3]
  have hsz3 : s2.heap.objs.size < s3.heap.objs.size := by rw [hh3, Heap.size_push]; exact Nat.lt_succ_self _
  have e3 : ∀ h t, ({ s2 with heap := h, toks := t } : Shared) = { s3 with heap := h, toks := t } := fun h t => by rw [← hs3]
  rw [← hh3] at hns₁ hsb₁ ⊢
  have hk3 : ∀ b o, s3.heap.get? b = some o → h₁.get? b = some o := fun b o e => hsb₁.extBut b o (Nat.ne_of_lt (Heap.lt_size e)) (Heap.get?_push_of_some _ e)
  have I4 := blk_start (t' := s3.toks) I3 hkind hcl (hN σ I.len) f3 (fun b hb => Nat.lt_trans (hfo b hb) (hD ▸ hsz3)) (hns := by simpa using hns₁) hk3
  generalize hB : blk X N' scope cl s3.heap.objs.size s3 (upd H2 D (.lst [])) fp (X.pn ++ pins) = B at *
  have hBp : B.prog = X.prog := by rw [← hB]; rfl
  have hBw : B.w = X.w := by rw [← hB]; rfl
  have hBK : B.K = X.K := by rw [← hB]; rfl
  have hBA : B.A = X.A := by rw [← hB]; rfl
  have hBc : B.calm = true := by rw [← hB]; exact hc
  have hBe : B.env = compEnvC scope cl s3.heap.objs.size X.env := by rw [← hB]; rfl
  have hBx : B.xe = fun _ _ => False := by rw [← hB]; rfl
  have hGB : PG B tg g := hB ▸ hg _ _ _ _ _
  have hTB : PIfs B ifs tt := hB ▸ ht _ _ _ _ _
  have hEB : PE B elt te := hB ▸ he _ _ _ _ _
  have stat : ∀ {H' : Hp}, (∀ b ∈ fp, H' b = none) → ∀ b ∈ fp, FpOk B [] H' b := fun {H'} hn b hb => by
    obtain ⟨f0, f1, f2', f3', f4, f5⟩ := f3 b hb
    rw [← hB]
    refine ⟨hn b hb, Nat.ne_of_lt (Nat.lt_trans (hfo b hb) (hD ▸ hsz3)), fun z => ?_, .inl hb, fun x c e => f4 x c (hcl.sub x c e), fun p hp => ?_⟩
    · rcases List.mem_cons.mp (I.stkSub b z) with z | z
      · exact f1 z
      · exact f2' z
    · rw [show (blk X N' scope cl s3.heap.objs.size s3 (upd H2 D (.lst [])) fp (X.pn ++ pins)).pn = X.pn ++ pins from rfl, List.append_nil] at hp
      exact f5 p hp
  have loop : ∀ s4 : Shared, Inv B [] (σf σ) (upd H2 D (.lst [])) s4 → tn 0 s4.heap →
      codeAny (model X.prog X.w) X.A (.compLoop (.ListComp elt [⟨tg, iter, ifs, 0⟩] scope pos) 0 (.ref it) (.ref D) (compEnvC scope cl s3.heap.objs.size X.env)) (compPost (model X.prog X.w) X.A X.xe none (EP X pins σ Q) (.ref D) s3.heap.objs.size) s4 := by
    intro s4 I4 st4
    refine compLoop_gen (I := fun n s' => ∃ i ys H', Inv B [] (σf σ) H' s' ∧ tn i s'.heap ∧ (∀ b ∈ fp, H' b = none) ∧ W i n ys H') ?_ m0 ⟨0, [], _, I4, st4, fun b hb => (f3 b hb).1, w0⟩
    rintro n s5 ⟨i, ys, H5, I5, st5, fr5, w5⟩
    obtain ⟨hD5, hlen5, alt⟩ := turn i n ys H5 w5
    rcases alt with ⟨stop, qn⟩ | ⟨go, step⟩
    · have z := T.done B hBp hBw hBK hBc i [] s5 (σf σ) H5 (fun _ _ => False) I5 (stat fr5) st5 stop
      rw [hBA] at z
      refine thn z fun r s6 ⟨hr, I6⟩ => ?_
      subst hr
      obtain ⟨m6, hn6, _⟩ := I6.loc
      rw [hBe] at hn6
      refine ⟨m6, hn6, fun h' hs' => ?_⟩
      subst hB
      exact ⟨.ref D, H5, blk_end I3 f3 I6 hs', rfl, qn⟩
    · have z := T.item B hBp hBw hBK hBc i [] s5 (σf σ) H5 (fun _ _ => False) I5 (stat fr5) st5 go
      rw [hBA] at z
      refine thn z fun r s6 ⟨u, hr, h6⟩ => ?_
      subst hr
      refine thn h6 fun _ s7 ⟨x, H7, I7, r7, y7, st7, fr7⟩ => ?_
      have I7' := I7.pinned (stat fr7) (T.obj _ _ st7)
      have z8 := hGB _ s7 (σf σ) H7 x u _ I7' r7 (step x H7 y7)
      rw [hBp, hBw, hBA, hBe, hBx] at z8
      refine thn z8 fun _ s8 ⟨σ8, H8, I8, k8, q8⟩ => ?_
      have z9 := hTB _ s8 σ8 H8 _ I8 q8
      rw [hBp, hBw, hBA, hBe, hBx] at z9
      refine thn z9 fun ok s9 ⟨H9, I9, q9⟩ => ?_
      have again : ∀ {ys' : List V} {H' : Hp} {s' : Shared}, Inv B ([] ++ pinsAt fp s7.heap) σ8 H' s' → (∃ m', m' < n ∧ W (i + 1) m' ys' H') → ∃ m, m < n ∧ ∃ i ys H', Inv B [] (σf σ) H' s' ∧ tn i s'.heap ∧ (∀ b ∈ fp, H' b = none) ∧ W i m ys H' := fun {ys' H' s'} J ⟨m', hm, w'⟩ => by
        refine ⟨m', hm, i + 1, ys', H', J.unpinned.weak k8.len.symm k8.at', T.keep _ _ _ st7 fun b hb o e => (J.pin (b, o) (List.mem_append_right _ (List.mem_append_right _ (mem_pinsAt hb e)))).1, fun b hb => ?_, w'⟩
        obtain ⟨o, e, d⟩ := T.obj _ _ st7 b hb
        exact (J.pin (b, o) (List.mem_append_right _ (List.mem_append_right _ (mem_pinsAt hb e)))).2.1
      cases ok with
      | false => exact again I9 q9
      | true =>
        have z10 := hEB _ s9 σ8 H9 _ I9 q9
        rw [hBp, hBw, hBA, hBe, hBx] at z10
        refine thn z10 fun y10 s10 ⟨y, H10, I10, r10, hD10, q10⟩ => ?_
        have z11 := mt_append (X := B) _ s10 σ8 H10 (.ref D) [y] (.ref D) [y10] (fun _ H' => ∃ m', m' < n ∧ W (i + 1) m' (ys ++ [y]) H') I10 rfl (.cons r10 .nil) ⟨D, ys, y, rfl, rfl, hD10, hlen5, q10⟩
        rw [hBp, hBw, hBA, hBx] at z11
        refine thn z11 fun _ s11 ⟨_, H11, I11, _, q11⟩ => again I11 q11
  have st4 : tn 0 ({ s3 with heap := h₁, toks := s3.toks } : Shared).heap := T.keep _ _ _ st2 fun b hb o e => hk3 b o (by rw [hh3]; exact Heap.get?_push_of_some _ e)
  have L4 := loop _ I4 st4
  subst hs3
  exact codeAny_compStart_list L4 (T.self _ 0 _ _ _ st4 L4)
end L2

namespace L2
open PySem PySem.Spec PyProof.Rows
/-! ### large ints: sizes in bits -/
def Bt (n : Nat) (x : Int) : Prop := x.natAbs < 2 ^ n
theorem Bt.bits {n : Nat} {x : Int} (h : Bt n x) : Builtin.Int.intBits x ≤ n := intBits_le_iff.mpr h
theorem Bt.of_bits {n : Nat} {x : Int} (h : Builtin.Int.intBits x ≤ n) : Bt n x := intBits_le_iff.mp h
theorem Bt.mono {m n : Nat} {x : Int} (h : Bt m x) (hn : m ≤ n) : Bt n x := Nat.lt_of_lt_of_le h (Nat.pow_le_pow_right (by decide) hn)
theorem Bt.mul {m n : Nat} {x y : Int} (h : Bt m x) (h' : Bt n y) : Bt (m + n) (x * y) := .of_bits (intBits_mul_le h.bits h'.bits)
theorem Bt.add {m : Nat} {x y : Int} (h : Bt m x) (h' : Bt m y) : Bt (m + 1) (x + y) := .of_bits (by have := intBits_add_le h.bits h'.bits; rwa [Nat.max_self] at this)
theorem Bt.le {m : Nat} {x y : Int} (h : Bt m y) (h0 : 0 ≤ x) (hy : x ≤ y) : Bt m x := by
  unfold Bt at *
  omega
theorem Bt.div {m : Nat} {x y : Int} (h : Bt m x) (h0 : 0 ≤ x) : Bt m (x / y) := by
  unfold Bt at *
  have := Int.natAbs_ediv_le_natAbs x y
  omega
theorem log_of {n : Nat} {x : Int} (h : Bt n x) (hp : 0 < x) (hn : n ≤ 9000) : x.natAbs.log2 < 9000 := by
  have : x.natAbs.log2 < n := (Nat.log2_lt (by omega)).mpr h
  omega
def CMulB (i j : Int) : Prop := Bt 1000000 i ∧ Bt 1000000 j
def CDivB (_i j : Int) : Prop := 0 < j ∧ Bt 9000 j
def CPowB (i j : Int) : Prop := 0 ≤ j ∧ j ≤ 1000 ∧ Bt 1000 i
section
variable {X : Cx}
theorem op_mulB : OpR X (binaryOp .Mult) (rI CMulB fun i j => .int (i * j)) := opI fun _ _ _ _ _ _ _ hc q => mul_int q (.of_bits (Nat.le_trans hc.1.bits (by decide)) (Nat.le_trans hc.2.bits (by decide)))
theorem op_fdivB : OpR X (binaryOp .FloorDiv) (rI CDivB fun i j => .int (i / j)) := opI fun i j _ _ _ _ _ hc q => by
  have h1 : (0 : Int) < j := hc.1
  rw [← Int.fdiv_eq_ediv_of_nonneg i (Int.le_of_lt h1)] at q
  exact floordiv_int (by omega) q (.inl (PyProof.noPylong_of_log2 (log_of hc.2 h1 (Nat.le_refl _))))
theorem op_powB : OpR X (binaryOp .Pow) (rI CPowB fun i j => .int (i ^ j.toNat)) := opI fun i j _ _ _ _ _ hc q => by
  obtain ⟨h0, h1, h2⟩ := hc
  refine PyProof.Rows.pow_int h0 ?_ q
  have b := h2.bits
  have e : (2 : Int) ^ 27 = 134217728 := by decide
  have := Int.mul_le_mul (show (Builtin.Int.intBits i : Int) ≤ 1000 by omega) h1 h0 (by decide)
  omega
/-! ### tuples of ints -/
theorem deq_ints {K : PySem.W.Frag} {H : Hp} {n : Nat} (ns ms : List Int) : ∀ (j : Nat) x y, (ns.map V.int)[j]? = some x → (ms.map V.int)[j]? = some y → DEq K H n x y (ns[j]? == ms[j]?) := by
  intro j x y h1 h2
  rw [List.getElem?_map] at h1 h2
  cases e1 : ns[j]? with
  | none => rw [e1] at h1; cases h1
  | some a =>
    cases e2 : ms[j]? with
    | none => rw [e2] at h2; cases h2
    | some b =>
      rw [e1] at h1
      rw [e2] at h2
      cases h1
      cases h2
      have : (some a == some b) = eqV (V.int a) (V.int b) := by
        show (a == b) = (a == b)
        rfl
      rw [this]
      exact DEq.flat rfl rfl
theorem all_ints : ∀ (ns ms : List Int), ((List.range (min ns.length ms.length)).all (fun j => ns[j]? == ms[j]?) && ns.length == ms.length) = decide (ns = ms) := by
  intro ns ms
  rw [Bool.eq_iff_iff]
  simp only [Bool.and_eq_true, List.all_eq_true, List.mem_range, beq_iff_eq, decide_eq_true_eq]
  constructor
  · rintro ⟨h, hl⟩
    refine List.ext_getElem? fun i => ?_
    by_cases hi : i < ns.length
    · exact h i (by omega)
    · rw [List.getElem?_eq_none (by omega), List.getElem?_eq_none (by omega)]
  · rintro rfl
    exact ⟨fun _ _ => rfl, rfl⟩
def rEqI (K : PySem.W.Frag) : R2 := fun x y H Q => ∃ a b, ∃ ns ms : List Int, x = .ref a ∧ y = .ref b ∧ SqT K H a (ns.map V.int) ∧ SqT K H b (ms.map V.int) ∧ Q (.bl (decide (ns = ms))) H
def rNeI (K : PySem.W.Frag) : R2 := fun x y H Q => ∃ a b, ∃ ns ms : List Int, x = .ref a ∧ y = .ref b ∧ SqT K H a (ns.map V.int) ∧ SqT K H b (ms.map V.int) ∧ Q (.bl (!decide (ns = ms))) H
theorem op_eqI (hu : X.A.units + 64 < cLine) : OpR X (compareOp .Eq) (rEqI X.K) := by
  intro pins s σ H x y v u Q I rx ry h
  obtain ⟨a, b, ns, ms, rfl, rfl, hx, hy, q⟩ := h
  refine op_eqT hu pins s σ H _ _ v u Q I rx ry ⟨a, b, _, _, fun j => ns[j]? == ms[j]?, rfl, rfl, hx, hy, deq_ints ns ms, ?_⟩
  rw [List.length_map, List.length_map, all_ints]
  exact q
end
end L2

namespace L2
open PySem PySem.Spec PyProof.Rows
section
variable {X : Cx}
/-- sum of a list of ints -/
theorem call_sum (hc : X.calm = true) : CallR X (.builtin "sum") (fun xs H Q => ∃ p, ∃ ns : List Int, xs = [.ref p] ∧ SqL X.K H p (ns.map V.int) ∧ Q (.int ns.sum) H) := by
  intro pins s σ H xs us Q I r h
  obtain ⟨p, ns, rfl, hq, q⟩ := h
  obtain ⟨u, rfl, rx⟩ := vals1 r
  cases rx
  obtain ⟨its, r', pl, hz⟩ := I.list hq
  have hi := intsAre_of r'
  obtain ⟨ys, e⟩ := (hi.allInts).items
  have hl : s.heap.IsList p (intItems ys) := e ▸ pl.isList
  refine sum_intListG (I.ok.hd hc) hl fun h' tk t' hk => ?_
  refine ⟨.int ns.sum, H, I.kept hk, ⟨t', ?_⟩, q⟩
  have e1 : numsOf its = ns := hi.numsOf
  have e2 : numsOf (intItems ys).toList = numsOf its := by rw [← e]
  rw [nums_intItems, e1] at e2
  rw [preSum_eq, List.take_of_length_le (by simp), e2]
/-- an item of the tuple that a name holds -/
def tIt (K : PySem.W.Frag) (i k : Nat) : TE := fun σ H Q => ∃ p xs v, σ[i]? = some (some (.ref p)) ∧ SqT K H p xs ∧ xs[k]? = some v ∧ Q v H
theorem pit (i k : Nat) {x : Str} {p q : Pos} {j : Nat} (hN : X.N[i]? = some x := by rfl) (hv : Vis X.env.scope x := by first | exact Or.inl rfl | exact Or.inr (Or.inl rfl) | exact Or.inr (Or.inr rfl)) (hd : (x == ("__debug__" : Str)) = false := by decide)
    (hcd : (x == ("__classdict__" : Str)) = false := by decide) {pos : Pos} : PE X (.Subscript (.Name x p) (.Constant (.int (k : Int)) j q) pos) (tIt X.K i k) := by
  intro pins s σ H Q I h
  obtain ⟨a, xs, v, e, hs, hk, q⟩ := h
  exact pe_ix ix_tup (pe_var hN hv hd hcd) pe_int (fun _ _ => rfl) pins s σ H Q I ⟨_, e, a, xs, (k : Int), v, rfl, rfl, hs, atI_nat hk, q⟩
/-- a def of the text that may be called by its name -/
structure Cal (P : Program) (w : World) (K : PySem.W.Frag) (mg : Str → Option Value) (base : Heap) (CX : CXT) (k : Nat) (x : Str) (ps : List Str) (sp : Sp) : Prop where
  ex : ∃ (f : Addr) (fd : FuncData), mg x = some (.ref f) ∧ PySem.W.keepIn K (.ref f) = true ∧ Binds K fd ps [] ∧ FnOk P w K mg base CX k f fd ps sp
theorem pe_cal {CX : CXT} {k : Nat} {x : Str} {ps : List Str} {sp : Sp} {E : XK} {e : Expr} {es : List Expr} {t : TA} {p pos : Pos} (C : Cal X.prog X.w X.K X.mg X.base CX k x ps sp) (hr : Room k X.A) (hg : Gl X x) (hx : Passes CX X E)
    (ha : PA X (e :: es) t) (hdb : (x == ("__debug__" : Str)) = false := by decide) (he : starEach (e :: es) X.env = (false, eval e X.env) :: starEach es X.env := by rfl) (hpl : (backTo pos (starEach es X.env)).any (·.1) = false := by rfl) :
    PE X (.Call (.Name x p) (e :: es) [] pos) (tCall sp [] E t) := by
  obtain ⟨f, fd, hm, hk, hb, F⟩ := C.ex
  exact pe_call F hr hg hm hk hb .nil hx ha hdb he hpl
theorem Cal.mono {P : Program} {w : World} {K : PySem.W.Frag} {mg : Str → Option Value} {base : Heap} {CX : CXT} {j k : Nat} {x : Str} {ps : List Str} {sp : Sp} (C : Cal P w K mg base CX j x ps sp) (h : j ≤ k) : Cal P w K mg base CX k x ps sp := by
  obtain ⟨f, fd, hm, hk, hb, F⟩ := C.ex
  exact ⟨f, fd, hm, hk, hb, F.mono h⟩
end
theorem Same.upd {H : Hp} {a : Addr} {o : HO} (h : H a = none) : Same H (upd H a o) := fun b u e => by
  rw [upd_ne (ne_of_none e h)]
  exact e
/-- a new tuple of ints comes back, all else as it was -/
def RetT (H : Hp) (Q : VK) (ns : List Int) : Prop := ∀ p H', Same H H' → H' p = some (.tup (ns.map V.int)) → Q (.ref p) H'
end L2

namespace L2
open PySem PySem.Spec PyProof.Rows PySem.W
/-- an own class of errors, as the top has made it -/
structure ExK (K : Frag) (C : Addr) : Prop where
  ga : findIn K (.ref C) "__getattribute__" = some (some (.builtin "BaseException.__getattribute__"))
  gt : findIn K (.ref C) "__getattr__" = some none
  cl : findIn K (.ref C) "__class__" = some (some (.builtin "object.__class__"))
  sb : subIn K (.ref C) (.type "BaseException") = some true
  so : subIn K (.ref C) (.type "object") = some true
  ci : (clsIn K C).isSome = true
/-- an object of the class at C stands at a -/
structure ExAt (h : Heap) (a : Addr) (o : Obj) (C : Addr) : Prop where
  at_ : h.get? a = some o
  cls : o.cls = .ref C
theorem ExAt.type {M : Model} {h : Heap} {a C : Addr} {o : Obj} (I : ExAt h a o C) : Looks M h (typeOf (.ref a)) (.ref C) := by
  rw [← I.cls]
  exact (Looks.ld I.at_).andThen .now
section
variable {prog : Program} {w : World} {A : Around} {E : Value → Shared → Prop} {h : Heap} {g : Array GenState} {d : Drawn} {t : Nat} {os : OsState} {a C : Addr} {o : Obj} {K : Frag}
end
/-- an object of an own class of errors stands at a: what is tracked of it -/
def excO (a C : Addr) : HO := .ext fun h => ∃ o, ExAt h a o C
section
variable {X : Cx}
end
end L2

namespace L2
open PySem PySem.Spec PyProof.Rows PySem.W
/-! ### an error on its way, with its own dict -/
theorem dict_mf (o : Obj) (f : Array Value → Array Value) : (Obj.mapFields f o).dict = o.dict := by
  unfold Obj.mapFields
  split <;> rfl
/-- an error at e with a traceback, its class, its dict -/
def TrD (h base : Heap) (e : Addr) (cls : Value) (dd : Option Addr) (fl : Value) : Prop :=
  ∃ (ob tb : Obj) (us ts : Array Value) (T : Addr), (h.get? e = some ob ∧ ob.data = .fields us ∧ ob.cls = cls ∧ ob.dict = dd) ∧ us[1]? = some (.ref T) ∧ (base.get? T = none ∧ T ≠ e) ∧ h.get? T = some tb ∧ tb.data = .fields ts ∧ ts[3]? = some fl
structure FlyD (base : Heap) (l : List Env) (e : Addr) (cls : Value) (dd : Option Addr) (fl : Value) (h : Heap) : Prop where
  st : base.StaysIn h
  no : base.get? e = none
  fr : h.FunFrames base l
  tr : TrD h base e cls dd fl
section
variable {M : Model} {A : Around} {E : Value → Shared → Prop} {s : Shared} {base : Heap} {env : Env} {outer : List Env} {L e : Addr} {Q : Unit → Shared → Prop} {cls : Value} {dd : Option Addr}
/-- a row of the traceback is laid ahead of the others -/
theorem entryD {ob : Obj} {us : Array Value} {head : Value} {had : Bool} (frs : A.frames = some (env :: outer)) (ff : s.heap.FunFrames base (env :: outer)) (fL : env.frame = some L)
    (ge : s.heap.get? e = some ob) (st : base.StaysIn s.heap) (no : base.get? e = none) (du : ob.data = .fields us) (sz : 1 < us.size)
    (k : ∀ h', FlyD base (env :: outer) e ob.cls ob.dict (rawInt L) h' → s.heap.UpToSlots h' → Q () { s with heap := h' }) :
    wpAny M A (do let fo ← frameOf env; let pl ← entryPlaceOf L had; let row ← EntryCells.newEntry head fo .none (rawInt L) .none pl; setField (.ref e) 1 row) Q E s := by
  have eNot : e ∉ (env :: outer).filterMap (·.frame) := fun mem => by
    obtain ⟨_, o', g', nf⟩ := ff.mem mem
    cases ge.symm.trans g'
    exact nf us du
  refine wpAny_bind (wpAny_frameOf_fun frs ff fL fun h1 only => wpAny_bind (wpAny_entryPlaceOf fun pl plOk => ?_))
  unfold EntryCells.newEntry newFields
  refine wpAny_bind (wpAny_newObj_type ?_ (plOk.sizeOk5 _ _ _ _ _))
  have g1 : h1.get? e = some ob := (only.2.1 e eNot).trans ge
  have st1 : base.StaysIn h1 := fun b o q => (only.2.1 b fun mem => by
    rw [(ff.mem mem).1] at q
    cases q).trans (st b o q)
  generalize hrow : ({ cls := .type "traceback", dict := none, data := .fields ([head, .ref L, .none, rawInt L, .none] ++ (if pl.isEmpty then List.replicate 6 Value.none else pl)).toArray } : Obj) = row
  have g2 : (h1.push row).get? e = some ob := Heap.get?_push_of_some row g1
  have Tne : h1.objs.size ≠ e := Nat.ne_of_gt (Heap.lt_size g1)
  have du' := Obj.data_mapFields du (·.setIfInBounds 1 (Value.ref h1.objs.size))
  have gT : (h1.push row).get? h1.objs.size = some row := Heap.get?_push_size h1 (by rw [← hrow]; rfl)
  have old : ∀ b o, b ≠ e → h1.get? b = some o → ((h1.push row).update e (Obj.mapFields (·.setIfInBounds 1 (Value.ref h1.objs.size)))).get? b = some o := fun b o nb q => by
    rw [Heap.get?_update_other _ _ (Ne.symm nb)]
    exact Heap.get?_push_of_some row q
  have nofld : ∀ b o, s.heap.get? b = some o → (∀ vs, o.data ≠ .fields vs) → b ≠ e := fun b o q nf z => by
    subst z
    cases ge.symm.trans q
    exact nf us du
  refine wpAny_setField g2 du sz (k _ ⟨fun b o q => old b o ?_ (st1 b o q), no, ff.of_keeps fun b o q nf => ?_, ?_⟩ fun b o q nf => ?_)
  · rintro rfl
    rw [no] at q
    cases q
  · obtain ⟨sl, z⟩ := only.2.2 b o q
    exact ⟨_, old b _ (nofld b o q nf) z, rfl⟩
  · refine ⟨_, row, _, ([head, .ref L, .none, rawInt L, .none] ++ (if pl.isEmpty then List.replicate 6 Value.none else pl)).toArray, h1.objs.size, ⟨Heap.get?_update_self _ g2 (Obj.isFreed_of_fields du'), du', Obj.cls_mapFields _ _, dict_mf _ _⟩, by simp [sz], ⟨?_, Tne⟩, ?_, by rw [← hrow], by simp⟩
    · cases z : base.get? h1.objs.size with
      | none => rfl
      | some o => exact absurd (Heap.lt_size (st1 _ _ z)) (Nat.lt_irrefl _)
    · rw [Heap.get?_update_other _ _ (Ne.symm Tne)]
      exact gT
  · obtain ⟨sl, z⟩ := only.2.2 b o q
    exact ⟨sl, old b _ (nofld b o q nf) z⟩
/-- the row's mark goes -/
theorem flightD {l : List Env} {fl : Value} (F : FlyD base l e cls dd fl s.heap) (k : ∀ h', FlyD base l e cls dd .none h' → s.heap.UpToSlots h' → Q () { s with heap := h' }) : wpAny M A (setFlight (.ref e) none) Q E s := by
  obtain ⟨st, no, ff, ob, tb, us, ts, T, ⟨ge, du, cc, cd⟩, u1, ⟨nT, Tne⟩, gT, dt, t3⟩ := F
  unfold setFlight
  refine wpAny_bind (wpAny_field ge du u1 ?_)
  rw [if_pos (show (Value.ref T != Value.none) = true from rfl)]
  have z3 : 3 < ts.size := (Array.getElem?_eq_some_iff.mp t3).1
  have dt' := Obj.data_mapFields dt (·.setIfInBounds 3 ((none : Option Addr).elim Value.none fun f => rawInt f))
  have old : ∀ b, b ≠ T → (s.heap.update T (Obj.mapFields (·.setIfInBounds 3 ((none : Option Addr).elim Value.none fun f => rawInt f)))).get? b = s.heap.get? b := fun b nb => Heap.get?_update_other _ _ (Ne.symm nb)
  have nofld : ∀ b o, s.heap.get? b = some o → (∀ vs, o.data ≠ .fields vs) → b ≠ T := fun b o q nf z => by
    subst z
    cases gT.symm.trans q
    exact nf ts dt
  refine wpAny_setField gT dt z3 (k _ ⟨fun b o q => ?_, no, ff.of_keeps fun b o q nf => ⟨o, (old b (nofld b o q nf)).trans q, rfl⟩, ?_⟩ fun b o q nf => ⟨o.slots, (old b (nofld b o q nf)).trans q⟩)
  · refine (old b ?_).trans (st b o q)
    rintro rfl
    rw [nT] at q
    cases q
  · exact ⟨ob, _, us, _, T, ⟨(old e (Ne.symm Tne)).trans ge, du, cc, cd⟩, u1, ⟨nT, Tne⟩, Heap.get?_update_self _ gT (Obj.isFreed_of_fields dt'), dt', by simp [z3]⟩
/-- a new error is noted -/
theorem note1D {ob : Obj} {us : Array Value} (frs : A.frames = some (env :: outer)) (ff : s.heap.FunFrames base (env :: outer)) (fL : env.frame = some L)
    (ge : s.heap.get? e = some ob) (st : base.StaysIn s.heap) (no : base.get? e = none) (du : ob.data = .fields us) (u1 : us[1]? = some .none)
    (k : ∀ h', FlyD base (env :: outer) e ob.cls ob.dict (rawInt L) h' → s.heap.UpToSlots h' → Q () { s with heap := h' }) : wpAny M A (noteFrame (.ref e) env) Q E s := by
  unfold noteFrame
  simp only [fL]
  refine wpAny_bind (wpAny_field ge du u1 ?_)
  rw [if_neg (by decide)]
  exact entryD frs ff fL ge st no du (Array.getElem?_eq_some_iff.mp u1).1 k
/-- one that is on its way is noted in the next frame -/
theorem noteD (frs : A.frames = some (env :: outer)) (fL : env.frame = some L) (F : FlyD base (env :: outer) e cls dd .none s.heap)
    (k : ∀ h', FlyD base (env :: outer) e cls dd (rawInt L) h' → s.heap.UpToSlots h' → Q () { s with heap := h' }) : wpAny M A (noteFrame (.ref e) env) Q E s := by
  obtain ⟨st, no, ff, ob, tb, us, ts, T, ⟨ge, du, cc, cd⟩, u1, ⟨nT, Tne⟩, gT, dt, t3⟩ := F
  subst cc cd
  unfold noteFrame
  simp only [fL]
  refine wpAny_bind (wpAny_field ge du u1 ?_)
  rw [if_pos (show (Value.ref T != Value.none) = true from rfl)]
  refine wpAny_bind (wpAny_field gT dt t3 ?_)
  rw [if_neg (show ¬ ((Value.none == rawInt L) = true) from by simp [rawInt])]
  have z3 : 3 < ts.size := (Array.getElem?_eq_some_iff.mp t3).1
  have old : ∀ b, b ≠ T → (s.heap.update T (Obj.mapFields (·.setIfInBounds 3 Value.none))).get? b = s.heap.get? b := fun b nb => Heap.get?_update_other _ _ (Ne.symm nb)
  have nofld : ∀ b o, s.heap.get? b = some o → (∀ vs, o.data ≠ .fields vs) → b ≠ T := fun b o q nf z => by
    subst z
    cases gT.symm.trans q
    exact nf ts dt
  refine wpAny_bind (wpAny_setField gT dt z3 ?_)
  refine entryD frs (ff.of_keeps fun b o q nf => ⟨o, (old b (nofld b o q nf)).trans q, rfl⟩) fL ((old e (Ne.symm Tne)).trans ge) (fun b o q => ?_) no du (Array.getElem?_eq_some_iff.mp u1).1 fun h' F' up => k h' F' fun b o q nf => up b o ((old b (nofld b o q nf)).trans q) nf
  refine (old b ?_).trans (st b o q)
  rintro rfl
  rw [nT] at q
  cases q
theorem FlyD.tail {h : Heap} {fl : Value} (F : FlyD base (env :: outer) e cls dd fl h) : FlyD base outer e cls dd fl h := ⟨F.st, F.no, F.fr.2.2, F.tr⟩
/-- a new error leaves the frame in which it was raised -/
theorem leave1D {ob : Obj} {us : Array Value} (frs : A.frames = some (env :: outer)) (ff : s.heap.FunFrames base (env :: outer)) (fL : env.frame = some L)
    (ge : s.heap.get? e = some ob) (st : base.StaysIn s.heap) (no : base.get? e = none) (du : ob.data = .fields us) (u1 : us[1]? = some .none)
    (k : ∀ h', FlyD base outer e ob.cls ob.dict .none h' → s.heap.UpToSlots h' → Q () { s with heap := h' }) : wpAny M A (leaving env (.ref e)) Q E s := by
  unfold leaving
  exact wpAny_bind (note1D frs ff fL ge st no du u1 fun h' F' up => flightD F' fun h'' F'' up' => k h'' F''.tail (up.trans up'))
theorem leaveD (frs : A.frames = some (env :: outer)) (fL : env.frame = some L) (F : FlyD base (env :: outer) e cls dd .none s.heap)
    (k : ∀ h', FlyD base outer e cls dd .none h' → s.heap.UpToSlots h' → Q () { s with heap := h' }) : wpAny M A (leaving env (.ref e)) Q E s := by
  unfold leaving
  exact wpAny_bind (noteD frs fL F fun h' F' up => flightD F' fun h'' F'' up' => k h'' F''.tail (up.trans up'))
end
end L2

namespace L2
open PySem PySem.Spec PyProof.Rows PySem.W
/-- an error is under way, with its own dict: what is known behind a call that ended so (s, H: ahead of the call) -/
structure Flx (P : Program) (w : World) (outer : List Env) (H : Hp) (s : Shared) (H' : Hp) (ea : Addr) (cls : Value) (dd : Option Addr) (s' : Shared) : Prop where
  os : s'.os = s.os
  bare : AllBare s'.gens
  un : Un (frs outer) [] H H' s.heap s'.heap
  fl : ∃ B : Heap, HOk P w H' B ∧ FlyD B outer ea cls dd .none s'.heap ∧ (∀ b o, s.heap.get? b = some o → H b = none → b ∉ frs outer → B.get? b = some o) ∧ (∀ b o, s.heap.get? b = some o → b ∉ frs outer → ∃ o', B.get? b = some o')
def CXg (P : Program) (w : World) : CXT := fun outer H s E e s' => ∃ (ea C : Addr) (dd : Option Addr) (H' : Hp), e = .ref ea ∧ Flx P w outer H s H' ea (.ref C) dd s' ∧ E (.ref C) dd H'
/-- a def's body running: it has a frame of its own and nothing that was made ahead of it turns -/
structure OwnF (X : Cx) : Prop where
  stk : X.stack = X.env :: X.outer
  fr : X.env.frame = some X.env.locals
  ex : X.ex = []
section
variable {X : Cx} {pins : List (Addr × Obj)} {σ : St} {H H' : Hp} {s s' : Shared}
theorem notStk (O : OwnF X) (I : Inv X pins σ H s) {b : Addr} {o : Obj} (e : X.s₀.heap.get? b = some o) (hb : b ∉ frs X.outer) : b ∉ frs X.stack := by
  rw [O.stk]
  intro z
  unfold frs at z hb
  rw [List.filterMap_cons, O.fr] at z
  rcases List.mem_cons.mp z with z | z
  · exact absurd (Nat.lt_of_lt_of_le (Heap.lt_size e) I.ok.above) (by rw [z]; exact Nat.lt_irrefl _)
  · exact hb z
theorem inStk (O : OwnF X) {b : Addr} (hb : b ∈ frs X.outer) : b ∈ frs X.stack := by
  rw [O.stk]
  unfold frs at *
  rw [List.filterMap_cons, O.fr]
  exact List.mem_cons_of_mem _ hb
/-- what has stayed, seen from the entry, when the error has left the frame -/
theorem un_of (O : OwnF X) (I : Inv X pins σ H s) {B h' : Heap} (u : Un (frs X.stack) [] H H' s.heap s'.heap) (bk : ∀ b o, X.s₀.heap.get? b = some o → X.H₀ b = none → b ∉ frs X.outer → B.get? b = some o)
    (th : ∀ b o, X.s₀.heap.get? b = some o → b ∉ frs X.outer → ∃ o', B.get? b = some o') (st : B.StaysIn h') (up : s'.heap.UpToSlots h') : Un (frs X.outer) [] X.H₀ H' X.s₀.heap h' := by
  have noex : ∀ b : Addr, b ∉ X.ex := fun b z => by rw [O.ex] at z; cases z
  have slot : ∀ b o, X.s₀.heap.get? b = some o → X.H₀ b = none → b ∈ frs X.outer → ∃ sl, h'.get? b = some { o with slots := sl } := fun b o e n hb => by
    obtain ⟨sl, e1⟩ := I.base.slot b o e n hb (noex b)
    have n1 := I.base.free b o e n (noex b)
    obtain ⟨sl2, e2⟩ := u.slot b _ e1 n1 (inStk O hb) (by simp)
    obtain ⟨_, o', ho', hnf⟩ := I.ok.funs.mem hb
    rw [e] at ho'
    cases ho'
    obtain ⟨sl3, e3⟩ := up b _ e2 (fun vs q => hnf vs q)
    exact ⟨sl3, e3⟩
  refine ⟨fun b o e n hb _ => st b o (bk b o e n hb), fun b o e n hb _ => slot b o e n hb, fun b o e n _ => ?_, fun b o e _ => ?_, fun b xs e => u.tups _ _ (I.base.tups _ _ e), fun b o x e => u.frzs _ _ _ (I.base.frzs _ _ _ e), fun b ps e => ?_⟩
  · obtain ⟨o1, e1⟩ := I.base.there b o e (noex b)
    exact u.free b o1 e1 (I.base.free b o e n (noex b)) (by simp)
  · by_cases hb : b ∈ frs X.outer
    · obtain ⟨sl, q⟩ := slot b o e (I.ok.frf b hb) hb
      exact ⟨_, q⟩
    · obtain ⟨o2, e2⟩ := th b o e hb
      exact ⟨o2, st b o2 e2⟩
  · obtain ⟨m1, e1⟩ := I.base.tbls b ps e
    obtain ⟨m2, e2⟩ := u.tbls _ _ e1
    exact ⟨m1 ++ m2, by rw [e2, Array.append_assoc]⟩
/-- the written part of the heap when the error is raised: all but the frames and the error -/
theorem fly_B (I : Inv X pins σ H s) {ea : Addr} (hea : H ea = none) : HOk X.prog X.w H (hideAll s.heap (ea :: frs X.stack)) := fun a o e => (I.hok a o e).stay (fun b u hb q => hideAll_get _ q fun z => by
  have n : H b = none := by
    rcases List.mem_cons.mp z with z | z
    · rw [z]; exact hea
    · exact I.stkFree b z
  rcases hb with hb | hb
  · rw [← hb] at e; rw [e] at n; cases n
  · rw [hb] at n; cases n) (fun _ h => h) (fun _ _ h => h)
/-- an error that stands there, untracked, leaves the frame -/
theorem fly_raise (O : OwnF X) (I : Inv X pins σ H s) {ea C : Addr} {dd : Option Addr} {ob : Obj} {us : Array Value} {E' : Value → Shared → Prop} {Q : Unit → Shared → Prop} (hea : H ea = none) (n0 : X.s₀.heap.get? ea = none) (ge : s.heap.get? ea = some ob)
    (hc : ob.cls = .ref C) (hdd : ob.dict = dd) (du : ob.data = .fields us) (u1 : us[1]? = some .none)
    (k : ∀ h', Flx X.prog X.w X.outer X.H₀ X.s₀ H ea (.ref C) dd { s with heap := h' } → Q () { s with heap := h' }) : wpAny (model X.prog X.w) X.A (leaving X.env (.ref ea)) Q E' s := by
  have nfr : ea ∉ frs X.stack := fun z => by
    obtain ⟨_, o', ho', hnf⟩ := I.stack.mem z
    rw [ge] at ho'
    cases ho'
    exact hnf us du
  have hin : ∀ env ∈ X.stack, ∀ b, env.frame = some b → b ∈ ea :: frs X.stack := fun env he b hb => List.mem_cons_of_mem _ (List.mem_filterMap.mpr ⟨env, he, hb⟩)
  have hfr : X.A.frames = some (X.env :: X.outer) := by rw [← O.stk]; exact I.ok.frames
  have hl : s.heap.FunFrames (hideAll s.heap (ea :: frs X.stack)) (X.env :: X.outer) := by rw [← O.stk]; exact funFrames_hide I.stack hin
  have nB : (hideAll s.heap (ea :: frs X.stack)).get? ea = none := hideAll_none _ (List.mem_cons_self ..)
  have bk : ∀ b o, X.s₀.heap.get? b = some o → X.H₀ b = none → b ∉ frs X.outer → (hideAll s.heap (ea :: frs X.stack)).get? b = some o := fun b o e n hb => by
    refine hideAll_get _ (I.base.keep b o e n hb (by rw [O.ex]; simp)) fun z => ?_
    rcases List.mem_cons.mp z with z | z
    · rw [z, n0] at e; cases e
    · exact notStk O I e hb z
  have th : ∀ b o, X.s₀.heap.get? b = some o → b ∉ frs X.outer → ∃ o', (hideAll s.heap (ea :: frs X.stack)).get? b = some o' := fun b o e hb => by
    obtain ⟨o1, e1⟩ := I.base.there b o e (by rw [O.ex]; simp)
    refine ⟨o1, hideAll_get _ e1 fun z => ?_⟩
    rcases List.mem_cons.mp z with z | z
    · rw [z, n0] at e; cases e
    · exact notStk O I e hb z
  refine leave1D (base := hideAll s.heap (ea :: frs X.stack)) hfr hl O.fr ge (fun b o q => of_hideAll _ q) nB du u1 fun h' F' up => k h' ⟨I.os, I.bare, ?_, hideAll s.heap (ea :: frs X.stack), fly_B I hea, by rw [← hc, ← hdd]; exact F', bk, th⟩
  exact un_of (s' := s) O I Un.refl bk th F'.st up
theorem fly_on (O : OwnF X) (I : Inv X pins σ H s) {ea C : Addr} {dd : Option Addr} {E' : Value → Shared → Prop} {Q : Unit → Shared → Prop} (F : Flx X.prog X.w X.stack H s H' ea (.ref C) dd s')
    (k : ∀ h', Flx X.prog X.w X.outer X.H₀ X.s₀ H' ea (.ref C) dd { s' with heap := h' } → Q () { s' with heap := h' }) : wpAny (model X.prog X.w) X.A (leaving X.env (.ref ea)) Q E' s' := by
  obtain ⟨B, hok, fl, bk, th⟩ := F.fl
  have hfr : X.A.frames = some (X.env :: X.outer) := by rw [← O.stk]; exact I.ok.frames
  have fl' : FlyD B (X.env :: X.outer) ea (.ref C) dd .none s'.heap := by rw [← O.stk]; exact fl
  have bk0 : ∀ b o, X.s₀.heap.get? b = some o → X.H₀ b = none → b ∉ frs X.outer → B.get? b = some o := fun b o e n hb =>
    bk b o (I.base.keep b o e n hb (by rw [O.ex]; simp)) (I.base.free b o e n (by rw [O.ex]; simp)) (notStk O I e hb)
  have th0 : ∀ b o, X.s₀.heap.get? b = some o → b ∉ frs X.outer → ∃ o', B.get? b = some o' := fun b o e hb => by
    obtain ⟨o1, e1⟩ := I.base.there b o e (by rw [O.ex]; simp)
    exact th b o1 e1 (notStk O I e hb)
  exact leaveD hfr O.fr fl' fun h' F' up => k h' ⟨F.os.trans I.os, F.bare, un_of O I F.un bk0 th0 F'.st up, B, hok, F', bk0, th0⟩
end
/-- the body of a def that may raise -/
abbrev cxF (P : Program) (w : World) (K : Frag) (mg : Str → Option Value) (base : Heap) (N : List Str) (qual : Str) (scope : Scope) (f : Addr) (cd : Value) (A : Around) (outer : List Env) (s : Shared) (H : Hp) (E : XK) : Cx := cxOf (CXg P w) P w K mg base N qual scope f cd A outer s H E
section
variable {P : Program} {w : World} {K : Frag} {mg : Str → Option Value} {base : Heap} {N : List Str} {qual : Str} {scope : Scope} {f : Addr} {cd : Value} {A : Around} {outer : List Env} {s : Shared} {H : Hp} {E : XK}
theorem ownF_of : OwnF (cxF P w K mg base N qual scope f cd A outer s H E) := ⟨rfl, rfl, rfl⟩
/-- an error of a callee goes on -/
theorem pass_f : Passes (CXg P w) (cxF P w K mg base N qual scope f cd A outer s H E) E := by
  intro pins σ Hc sc e s' I h
  obtain ⟨ea, C, dd, H', rfl, F, hE⟩ := h
  exact fly_on (X := cxF P w K mg base N qual scope f cd A outer s H E) ownF_of I F fun h' F' => ⟨ea, C, dd, H', rfl, F', hE⟩
/-- an error that stands there, untracked, leaves -/
def XeOk (X : Cx) (E : XK) : Prop := ∀ (pins : List (Addr × Obj)) (σ : St) (H : Hp) (s : Shared) (ea C : Addr) (ob : Obj) (us : Array Value), Inv X pins σ H s → H ea = none → X.s₀.heap.get? ea = none → s.heap.get? ea = some ob → ob.cls = .ref C → ob.data = .fields us → us[1]? = some .none → E (.ref C) ob.dict H → X.xe (.ref ea) s
theorem xe_f : XeOk (cxF P w K mg base N qual scope f cd A outer s H E) E := by
  intro pins σ Hc sc ea C ob us I hea n0 ge hc du u1 hE
  exact fly_raise (X := cxF P w K mg base N qual scope f cd A outer s H E) ownF_of I hea n0 ge hc rfl du u1 fun h'' F' => ⟨ea, C, ob.dict, Hc, rfl, F', hE⟩
end
end L2

namespace L2
open PySem PySem.Spec PyProof.Rows PySem.W
/-- the class that an except names -/
structure CtK (K : Frag) (D : Addr) : Prop where
  ty : typeIn K (.ref D) = some (.type "type")
  ci : (clsIn K D).isSome = true
  sb : subIn K (.ref D) (.type "BaseException") = some true
/-! ### raise -/
abbrev bmV : List Value := [.type "ValueError", .type "Exception", .type "BaseException", .type "object"]
structure ClsObj (h : Heap) (C : Addr) (bmB : List Value) (newId : String) : Prop where
  ex : ∃ (nm q : Str) (N : Addr) (bs bm : List Value) (hdct : Bool) (sn : List Str) (sub : List Value) (ab : Bool) (col : Option Bool) (dd : Option Addr) (k0 k1 k2 k3 k5 : Option Value) (mN : Str → Option Value),
    h.get? C = some (excClassObj nm q C N bs bm hdct sn sub ab col dd k0 k1 k2 k3 k5 newId) ∧ h.Ns N mN ∧ mN "__init__" = none ∧ OwnTail h bmB bm
/-- an error of the class at C that was caught, its dict -/
def excD (a C : Addr) (dd : Option Addr) : HO := .ext fun h => ∃ o, ExAt h a o C ∧ o.dict = dd ∧ ∃ us, o.data = .fields us
theorem Inv.absent0 {X : Cx} {pins : List (Addr × Obj)} {σ : St} {H : Hp} {s : Shared} (I : Inv X pins σ H s) {e : Addr} (hex : X.ex = []) (n : s.heap.get? e = none) : X.s₀.heap.get? e = none := by
  cases q : X.s₀.heap.get? e with
  | none => rfl
  | some o =>
    obtain ⟨ob, z⟩ := I.base.there e o q (by rw [hex]; simp)
    rw [n] at z
    cases z
def tRaise (C : Addr) (E : XK) (t : TA) : TS := fun _ σ H => t σ H fun vs H1 => vs.length ≤ sizeLine ∧ E (.ref C) none H1
section
variable {X : Cx}
end
/-- within an except suite, from which nothing is raised -/
abbrev Cx.within (X : Cx) (v : Value) : Cx := { X with A := X.A.mark (some v), calm := false, xe := fun _ _ => False }
/-- within a try: what is wanted of an error, and pins that every state bears -/
abbrev Cx.trying (X : Cx) (pins : List (Addr × Obj)) (E : Value → Shared → Prop) : Cx := { X with pn := X.pn ++ pins, xe := E }
section
variable {X : Cx} {pins : List (Addr × Obj)} {σ : St} {H H' : Hp} {s s' : Shared}
/-- a thing that stands there is tracked from now on -/
theorem Inv.track (I : Inv X pins σ H s) {a : Addr} {u : HO} (hn : H a = none) (h0 : X.s₀.heap.get? a = none) (hL : a ≠ X.env.locals) (hc : ∀ x c, X.env.cells.lookup x = some c → c ≠ a) (hp : ∀ p ∈ X.pn ++ pins, p.1 ≠ a)
    (ok : ObjOk X.prog X.w (upd H a u) s.heap a u) : Inv X pins σ (upd H a u) s := by
  have old : ∀ b o, X.s₀.heap.get? b = some o → b ≠ a := fun b o e z => by rw [z, h0] at e; cases e
  have trk : ∀ b o, H b = some o → b ≠ a := fun b o e => ne_of_none e hn
  refine ⟨I.ok, I.os, I.bare, ⟨I.base.keep, I.base.slot, fun b o e n hx => ?_, I.base.there, fun b xs e => ?_, fun b o x e => ?_, fun b ps e => ?_⟩, I.loc, I.cell, ?_, fun x c e => ?_, fun p q => ?_, fun b o e => ?_, I.len⟩
  · rw [upd_ne (old b o e)]
    exact I.base.free b o e n hx
  · have z := I.base.tups b xs e
    rw [upd_ne (trk _ _ z)]
    exact z
  · have z := I.base.frzs b o x e
    rw [upd_ne (trk _ _ z)]
    exact z
  · obtain ⟨m, z⟩ := I.base.tbls b ps e
    exact ⟨m, by rw [upd_ne (trk _ _ z)]; exact z⟩
  · rw [upd_ne (Ne.symm hL)]
    exact I.free
  · rw [upd_ne (hc x c e)]
    exact I.freeC x c e
  · obtain ⟨a1, a2, a3⟩ := I.pin p q
    exact ⟨a1, by rw [upd_ne (hp p q)]; exact a2, a3⟩
  · by_cases hb : b = a
    · subst hb
      rw [upd_same] at e
      cases e
      exact ok
    · rw [upd_ne hb] at e
      exact (I.hok b o e).stay (fun _ _ _ q => q) (fun c q => by rw [upd_ne (trk _ _ q)]; exact q) (fun c xs q => by rw [upd_ne (trk _ _ q)]; exact q)
/-- of a callee that may raise, and does not here -/
theorem passY {P : Program} {w : World} {X : Cx} : Passes (CXg P w) X E0 := fun _ _ _ _ _ _ _ h => by
  obtain ⟨_, _, _, _, _, _, z⟩ := h
  exact z.elim
/-- an error of the body is caught under the name n and kept under the name y (slot j) -/
def tTry (K : Frag) (N j : Nat) (Dc : Addr) (tb : XK → TS) : TS := fun D σ H => tb (fun cls dd H' => ∃ C, cls = .ref C ∧ ExK K C ∧ subIn K (.ref C) (.ref Dc) = some true ∧ ∀ a, H' a = none → D.nx ((List.replicate N none).set j (some (.ref a))) (upd H' a (excD a C dd))) D σ H
end
end L2

namespace L2
open PySem PySem.Spec PyProof.Rows PySem.W
/-! ### an own class of errors with an __init__ of its own -/
/-- the class at C stands under the one at P, which stands under ValueError; its __init__ is the def at f -/
def xiIn (K : Frag) (C P f : Addr) : Bool := match K.lookup C with
  | some ⟨.type "type", _, .cls cd, sl⟩ => (match cd.mro, sl.toList with
    | .ref C' :: .ref P' :: bm, [_, _, _, _, some (.builtin n), _] => C' == C && P' == P && n == "ValueError.__new__" && !cd.hasDel && cd.hasDict && tailIn K bmV (.ref P' :: bm) && nsOkIn K cd.ns && nsIn K cd.ns "__init__" == some (some (.ref f)) && bm == bmV
    | _, _ => false)
  | _ => false
structure ClsI (h : Heap) (C P f : Addr) : Prop where
  ex : ∃ (nm q : Str) (N : Addr) (bs : List Value) (sn : List Str) (sub : List Value) (ab : Bool) (col : Option Bool) (dd : Option Addr) (k0 k1 k2 k3 k5 : Option Value) (mN : Str → Option Value),
    h.get? C = some (excClassObj nm q C N bs (.ref P :: bmV) true sn sub ab col dd k0 k1 k2 k3 k5 "ValueError.__new__") ∧ h.Ns N mN ∧ mN "__init__" = some (.ref f) ∧ OwnTail h bmV (.ref P :: bmV)
theorem nsMap_some_of_in {K : Frag} {h : Heap} {N : Addr} {x : Str} {v : Value} (X : K.In h) (hok : nsOkIn K N = true) (e : nsIn K N x = some (some v)) : h.nsMap N x = some v := by
  have G : h.Ns N (h.nsMap N) := .of_isNs (isNs_of_in X hok)
  obtain ⟨o, es, ep, ho, hd, _, hf⟩ := G
  unfold nsIn at e
  split at e
  · rename_i c d es' n' sl q
    have z := X _ _ q
    rw [ho] at z
    cases z
    cases hd
    split at e
    · rename_i en he
      cases e
      rw [← hf]
      unfold nsFind findBy
      rw [← Array.find?_toList, he]
      rfl
    · split at e <;> cases e
  · cases e
theorem clsI_of {K : Frag} {h : Heap} {C P f : Addr} (X : K.In h) (q : xiIn K C P f = true) : ClsI h C P f := by
  unfold xiIn at q
  split at q
  case h_2 => cases q
  case h_1 dd cd sl ho =>
    split at q
    case h_2 => cases q
    case h_1 C' P' bm k0 k1 k2 k3 n k5 hm hs =>
      simp only [Bool.and_eq_true, beq_iff_eq, Bool.not_eq_true'] at q
      obtain ⟨⟨⟨⟨⟨⟨⟨⟨e1, e0⟩, e2⟩, hdel⟩, hdi⟩, ht⟩, hok⟩, hni⟩, e3⟩ := q
      cases e1
      cases e0
      cases e2
      cases e3
      obtain ⟨nm, bs, mro, ns, qn, hd, sn, sub, ab, col, del⟩ := cd
      obtain ⟨sl⟩ := sl
      dsimp only at hm hdel hok hni hs hdi
      subst hm hdel hs hdi
      exact ⟨nm, qn, ns, bs, sn, sub, ab, col, dd, k0, k1, k2, k3, k5, _, X _ _ ho, .of_isNs (isNs_of_in X hok), nsMap_some_of_in X hok hni, tail_of_in X ht⟩
section
variable {prog : Program} {w : World} {A : Around} {E : Value → Shared → Prop} {h : Heap} {g : Array GenState} {d : Drawn} {t : Nat} {os : OsState} {K : Frag} {C P f : Addr}
/-- what stands there when __init__ is called -/
abbrev excNew (h : Heap) (C : Addr) (rest : List Value) : Heap := (h.push { cls := .type "tuple", data := .seq rest.toArray }).push { cls := .ref C, data := .fields #[.ref h.objs.size, .none, .none, .none, .bool false, .none] }
theorem exi_type_call {rest : List Value} {Q : Fin → Shared → Prop} (X : K.In h) (I : ClsI h C P f) (hf : typeIn K (.ref f) = some (.type "function")) (hrest : rest.length ≤ sizeLine)
    (hq : codeAny (model prog w) A (.call (.ref f) ⟨.ref (h.objs.size + 1) :: rest, []⟩) (fun r s' => match r with
      | .ok (.ret v) => v = .none ∧ Q (.done (.ret (.ref (h.objs.size + 1)))) s'
      | .ok _ => False
      | .error e => E e s') ⟨excNew h C rest, g, d, t, os⟩) :
    wpAny (model prog w) A (Builtin.«type.__call__» ⟨.ref C :: rest, []⟩) Q E ⟨h, g, d, t, os⟩ := by
  obtain ⟨nm, q, N, bs, sn, sub, ab, col, dd, k0, k1, k2, k3, k5, mN, hC, hn, hni, T⟩ := I.ex
  have F := PySem.F.excBase_ValueError
  repeat (first | with_reducible refine wpAny_loadPart_at hC ?_ | with_reducible refine wpAny_madeBy_exc hC ?_ | wp_step)
  refine codeAny_call_builtin_code (Code.quiet_builtin _ F.quiet) (wpAny_check_new_subU F F.hasB T hC ?_)
  refine codeAny_exc_new_subU F F.hasB F T hC ?_ hrest
  show wpAny _ _ _ _ _ _
  have keep : ∀ b o, h.get? b = some o → (excNew h C rest).get? b = some o := fun b o e => Heap.get?_push_of_some _ (Heap.get?_push_of_some _ e)
  have hC1 := keep _ _ hC
  have hn1 : (excNew h C rest).Ns N mN := hn.keeps keep
  have hget : (excNew h C rest).get? (h.objs.size + 1) = some { cls := .ref C, data := .fields #[.ref h.objs.size, .none, .none, .none, .bool false, .none] } := by unfold excNew; heap_get
  have hcC : (Value.ref C :: Value.ref P :: bmV).contains (.ref C) = true := by simp
  have T1 := T.keeps keep
  have B1 := bind_fn (M := model prog w) (X.keeps keep) (.ref (h.objs.size + 1)) hf
  unfold isInstance
  repeat (first | with_reducible refine wpAny_loadPart_at hget ?_ | (with_reducible refine wpAny_isSubtype_exc hC1 ?_; rw [hcC]) | wp_step)
  show wpAny _ _ (typeLookup (.ref C) _) _ _ _
  refine wpAny_typeLookup_tail hC1 hn1 T1 F.mroIs F.init.lookup ?_
  rw [hni]
  refine wpAny_holding (wpAny_bind (B1.at ?_))
  refine wpAny_bind (wpAny_call (codeAny_mono hq fun r s' z => ?_))
  cases r with
  | error e => exact z
  | ok fl =>
    cases fl with
    | ret v =>
      obtain ⟨rfl, z⟩ := z
      exact wpAny_pure (wpAny_pure z)
    | next => exact z.elim
    | brk => exact z.elim
    | cont => exact z.elim
theorem exi_call {rest : List Value} {R : Result → Shared → Prop} (X : K.In h) (I : ClsI h C P f) (hf : typeIn K (.ref f) = some (.type "function")) (hrest : rest.length ≤ sizeLine)
    (hq : codeAny (model prog w) (A.under (.builtin "type.__call__" ⟨.ref C :: rest, []⟩)) (.call (.ref f) ⟨.ref (h.objs.size + 1) :: rest, []⟩) (InitBack (h.objs.size + 1) R) ⟨excNew h C rest, g, d, t, os⟩) :
    codeAny (model prog w) A (.call (.ref C) ⟨rest, []⟩) R ⟨h, g, d, t, os⟩ := by
  obtain ⟨nm, q, N, bs, sn, sub, ab, col, dd, k0, k1, k2, k3, k5, mN, hC, hn, hni, T⟩ := id I.ex
  have f1 := tc_lookup
  have f2 := tc_bind (.ref C)
  have hT : (⟨h, g, d, t, os⟩ : Shared).TypeIs (.ref C) "type" := ⟨_, hC, rfl⟩
  refine codeAny_of_tree ?_
  show wpAny _ _ (callAny (.ref C) _) _ _ _
  repeat (any_goals (first | assumption | with_reducible refine wpAny_loadPart_at hC ?_ | wp_step))
  refine ⟨rfl, ?_⟩
  refine codeAny_call_builtin_at (Code.quiet_builtin _ (by decide +kernel)) entry_typeCall (wpAny_check_type_call_sub hC (exi_type_call X I hf hrest (codeAny_mono hq fun r s' z => ?_)))
  cases r with
  | error e => exact z
  | ok fl =>
    cases fl with
    | ret v => exact z
    | next => exact z.elim
    | brk => exact z.elim
    | cont => exact z.elim
end
end L2

namespace L2
open PySem PySem.Spec PyProof.Rows PySem.W
/-- an error that is being made, or was made and is not raised yet: its class, its dict -/
def exN (a C : Addr) (dd : Option Addr) : HO := .ext fun h => ∃ o t, (h.get? a = some o ∧ o.cls = .ref C ∧ o.dict = dd) ∧ o.data = .fields #[t, .none, .none, .none, .bool false, .none]
/-- what is no more tracked -/
def rem (H : Hp) (a : Addr) : Hp := fun b => if b = a then none else H b
theorem rem_ne {H : Hp} {a b : Addr} (h : b ≠ a) : rem H a b = H b := by unfold rem; rw [if_neg h]
theorem rem_same {H : Hp} {a : Addr} : rem H a a = none := by unfold rem; rw [if_pos rfl]
section
variable {X : Cx} {pins : List (Addr × Obj)} {σ : St} {H : Hp} {s : Shared}
theorem Inv.drop (I : Inv X pins σ H s) {a : Addr} {φ : Heap → Prop} (ha : H a = some (.ext φ)) : Inv X pins σ (rem H a) s := by
  have nn : ∀ b, H b = none → rem H a b = none := fun b h => by
    by_cases z : b = a
    · rw [z]; exact rem_same
    · rw [rem_ne z]; exact h
  have oo : ∀ b o, H b = some o → (∀ ψ, o ≠ .ext ψ) → rem H a b = some o := fun b o h n => by
    by_cases z : b = a
    · subst z; rw [h] at ha; cases ha; exact absurd rfl (n φ)
    · rw [rem_ne z]; exact h
  refine ⟨I.ok, I.os, I.bare, ⟨I.base.keep, I.base.slot, fun b o e n hx => nn b (I.base.free b o e n hx), I.base.there, fun b xs e => oo b _ (I.base.tups b xs e) (fun _ z => by cases z), fun b o x e => oo b _ (I.base.frzs b o x e) (fun _ z => by cases z), fun b ps e => ?_⟩, I.loc, I.cell, nn _ I.free, fun x c e => nn _ (I.freeC x c e), fun p hp => ?_, fun b o e => ?_, I.len⟩
  · obtain ⟨m, z⟩ := I.base.tbls b ps e
    exact ⟨m, oo b _ z (fun _ q => by cases q)⟩
  · obtain ⟨a1, a2, a3⟩ := I.pin p hp
    exact ⟨a1, nn _ a2, a3⟩
  · by_cases z : b = a
    · rw [z, rem_same] at e; cases e
    · rw [rem_ne z] at e
      exact (I.hok b o e).stay (fun _ _ _ q => q) (fun c q => oo c _ q (fun _ z => by cases z)) (fun c xs q => oo c _ q (fun _ z => by cases z))
theorem Inv.exnew (I : Inv X pins σ H s) (C : Addr) (us : List Value) : Inv X pins σ (upd H (s.heap.objs.size + 1) (exN (s.heap.objs.size + 1) C none)) { s with heap := excNew s.heap C us } := by
  refine I.laid (a := s.heap.objs.size + 1) (t' := s.toks) (fun b u e => Heap.get?_push_of_some _ (Heap.get?_push_of_some _ e)) (Nat.le_succ _) ?_
  have hget : (excNew s.heap C us).get? (s.heap.objs.size + 1) = some { cls := .ref C, data := .fields #[.ref s.heap.objs.size, .none, .none, .none, .bool false, .none] } := by unfold excNew; heap_get
  exact ⟨⟨_, _, ⟨hget, rfl, rfl⟩, rfl⟩, ⟨_, hget⟩, fun h1 h2 ⟨o, t, ⟨e1, e2, e3⟩, e4⟩ k => ⟨o, t, ⟨k o e1, e2, e3⟩, e4⟩⟩
theorem raise_made {M : Model} {A : Around} {E : Value → Shared → Prop} {env : Env} {x : Sem Value} {C : Addr} {K : Frag} {s : Shared} {Q : Flow → Shared → Prop} (hh : A.handled = none) (F : ExK K C) (hk : ∃ oC, K.lookup C = some oC ∧ oC.cls = .type "type")
    (h : wpAny M A x (fun v s₁ => K.In s₁.heap ∧ ∃ e ob us, v = .ref e ∧ s₁.heap.get? e = some ob ∧ ob.cls = .ref C ∧ ob.data = .fields us ∧ us[1]? = some .none ∧ E (.ref e) s₁) E s) : wpAny M A (raiseStmt env (some x) none) Q E s := by
  unfold raiseStmt
  refine wpAny_bind (wpAny_mono h (fun v s₁ h₁ => ?_) fun _ _ x => x)
  obtain ⟨KX, e, ob, us, rfl, he, hc, hd, h1, hE⟩ := h₁
  obtain ⟨hp, g, d, tk, os⟩ := s₁
  have L1 := looks_subIn (M := M) KX F.sb
  obtain ⟨⟨cC, dC, tC, sC⟩, hkC, hkc⟩ := hk
  have hC := KX _ _ hkC
  dsimp only at hkc
  subst hkc
  obtain ⟨oc, od, odt, osl⟩ := ob
  dsimp only at hc hd
  subst hc hd
  have h1' := h1
  repeat (first | with_reducible refine wpAny_loadPart_at he ?_ | with_reducible refine wpAny_loadPart_at hC ?_ | with_reducible refine L1.at ?_ | wp_step)
  rw [h1]
  refine wpAny_pure ?_
  rw [if_neg (by decide)]
  exact wpAny_pure (wpAny_raiseNew_none hh hE)
end
theorem xiIn_obj {K : Frag} {C P f : Addr} (q : xiIn K C P f = true) : ∃ oC, K.lookup C = some oC ∧ oC.cls = .type "type" := by
  unfold xiIn at q
  split at q
  · rename_i ho
    exact ⟨_, ho, rfl⟩
  · cases q
/-- an own class of errors with an __init__, as the top made it -/
structure ExI (K : Frag) (C P f : Addr) : Prop where
  xi : xiIn K C P f = true
  fn : typeIn K (.ref f) = some (.type "function")
  kp : keepIn K (.ref C) = true
  k : ExK K C
/-- raise C(..): the error is made, __init__ runs, it leaves -/
def tRaiseI (C : Addr) (sp : Sp) (E : XK) (t : TA) : TS := fun _ σ H => t σ H fun vs H1 => vs.length ≤ sizeLine ∧ ∀ e, H1 e = none →
  sp (.ref e :: vs) (upd H1 e (exN e C none)) (fun v H2 => v = .non ∧ ∃ dd, H2 e = some (exN e C dd) ∧ E (.ref C) dd (rem H2 e)) E0
section
variable {X : Cx}
theorem ps_raiseI {x : Str} {C P f : Addr} {fd : FuncData} {ps : List Str} {sp : Sp} {k : Nat} {e₀ : Expr} {es : List Expr} {t : TA} {E : XK} {np cpos pos : Pos} (hex : X.ex = []) (hX : XeOk X E) (hc : X.calm = true) (hr : Room (k + 1) X.A) (hg : Gl X x) (hm : X.mg x = some (.ref C)) (hei : ExI X.K C P f)
    (F : FnOk X.prog X.w X.K X.mg X.base CX0 k f fd ps sp) (hb : Binds X.K fd ps []) (ha : PA X (e₀ :: es) t)
    (hdb : (x == ("__debug__" : Str)) = false := by decide) (he : starEach (e₀ :: es) X.env = (false, eval e₀ X.env) :: starEach es X.env := by rfl) (hpl : (backTo cpos (starEach es X.env)).any (·.1) = false := by rfl) :
    PS X (.Raise (some (.Call (.Name x np) (e₀ :: es) [] cpos)) none pos) (tRaiseI C sp E t) := by
  intro pins s σ H D I h
  rw [arm_exec_Raise]
  refine wpAny_bind (wpAny_standAt (raise_made (C := C) (K := X.K) (I.ok.hd hc) hei.k (xiIn_obj hei.xi) ?_))
  refine wpAny_bind (thn (Q := fun v s₁ => X.K.In s₁.heap ∧ ∃ e ob us, v = Value.ref e ∧ s₁.heap.get? e = some ob ∧ ob.cls = .ref C ∧ ob.data = .fields us ∧ us[1]? = some .none ∧ X.xe (.ref e) s₁) ?_ fun v s1 q => wpAny_bind (wpAny_standAt (wpAny_pure q)))
  refine wpAny_Call_Name_kw (ld_glob I hg hm ?_ hdb)
  refine PySem.W.callWith_K (h₀ := X.base) I.ok.mod.kin hei.kp (thn (ha cpos pins s σ H _ I h) fun us s1 ⟨vs, H1, I1, r, hl, q⟩ => ⟨I1.kIn, ?_⟩) he hpl
  have hn : H1 (s1.heap.objs.size + 1) = none := I1.hok.fresh (Nat.le_succ _)
  have hq := q (s1.heap.objs.size + 1) hn
  have I2 := I1.exnew C us
  have r2 : Vals (V.ref (s1.heap.objs.size + 1) :: vs) (Value.ref (s1.heap.objs.size + 1) :: us) := .cons rfl r
  have hlen : (Value.ref (s1.heap.objs.size + 1) :: us ++ []).length = ps.length := by
    have e := r2.length
    rw [F.len _ _ _ _ hq] at e
    rw [List.append_nil]
    exact e.symm
  have n0 : X.s₀.heap.get? (s1.heap.objs.size + 1) = none := I1.absent0 hex (Heap.get?_none_of_le (Nat.le_succ _))
  obtain ⟨hh, g, d, tk, os⟩ := s1
  refine wpAny_call (exi_call (f := f) (P := P) I1.kIn (clsI_of I1.kIn hei.xi) hei.fn (by show us.length ≤ sizeLine; rw [← r.length]; exact hl) (codeAny_mono (F.run _ X.stack _ _ ⟨Value.ref (hh.objs.size + 1) :: us, []⟩ (Value.ref (hh.objs.size + 1) :: us) _ _ E0 (hr.make C us [])
    (I2.env0.make C us []) (by have z := hb _ (Value.ref (hh.objs.size + 1) :: us) I2.kIn hlen; rw [List.append_nil] at z; exact z) r2 hq) fun r s' hq' => ?_))
  cases r with
  | error e => exact hq'.elim
  | ok fl =>
    cases fl with
    | ret u =>
      obtain ⟨v, H', I3, rv, ev, dd, hd, hE⟩ := I2.after hq'
      subst ev
      refine ⟨rv, ?_⟩
      obtain ⟨⟨o, t', ⟨o1, o2, o3⟩, o4⟩, _⟩ := I3.hok _ _ hd
      exact ⟨I3.kIn, _, o, _, rfl, o1, o2, o4, rfl, hX pins σ _ s' _ C o _ (I3.drop hd) rem_same n0 o1 o2 o4 rfl (by rw [o3]; exact hE)⟩
    | next => exact hq'.elim
    | brk => exact hq'.elim
    | cont => exact hq'.elim
end
end L2

namespace L2
open PySem PySem.Spec PyProof.Rows PySem.W PySem.Builtin PySem.Builtin.ObjectAttr
theorem refuse_exc (self : Value) : refuseLoop self "__setattr__" bmV = pure () := by
  kernel_rfl
section
variable {prog : Program} {w : World} {A : Around} {E : Value → Shared → Prop} {h : Heap} {g : Array GenState} {d : Drawn} {t : Nat} {os : OsState} {K : Frag} {C P f a : Addr} {o : Obj} {name : Str} {v : Value}
/-- e.name = v, up to the store itself -/
theorem exi_set_open {Q : Unit → Shared → Prop} (X : K.In h) (I : ClsI h C P f) (F : ExK K C) (sa : findIn K (.ref C) "__setattr__" = some (some (.builtin "object.__setattr__"))) (nn : findIn K (.ref C) name = some none) (O : ExAt h a o C)
    (hq : ∀ A' tk, wpAny (model prog w) A' (storeInOwnDict (.ref a) (.ref C) (.str name tk) name v false) (fun fin s' => ∃ u, fin = .done (.ret u) ∧ Q () s') (fun _ _ => False) ⟨h, g, d, t + 1, os⟩) :
    wpAny (model prog w) A (setAttr (.ref a) name v) Q E ⟨h, g, d, t, os⟩ := by
  obtain ⟨nm, q, N, bs, sn, sub, ab, col, dd, k0, k1, k2, k3, k5, mN, hC, hn, hni, T⟩ := I.ex
  have SF := PySem.F.store_object
  have L1 := O.type (M := model prog w)
  have L2' := looks_findIn (M := model prog w) X sa
  have L3 := looks_findIn (M := model prog w) X nn
  have L4 : Looks (model prog w) h (isInstance (.ref a) (.type "object")) true := L1.andThen (looks_subIn X F.so)
  refine wpAny_bind (wpAny_mkText (wpAny_bind (wpAny_bind (wpAny_bind (L1 _ _ _ _ (fun _ _ e => e) (L2' _ _ _ _ (fun _ _ e => e) (wpAny_holding ?_)))))))
  rw [SF.slot.bind]
  refine wpAny_bind (wpAny_pure (wpAny_bind (wpAny_call ?_)))
  refine codeAny_call_builtin SF.slot.plain SF.entry (@check_slot (model prog w) _ _ _ "object.__setattr__" "object" "__setattr__" (.ref a) [.str name t, v] [] _ SF.kind SF.split L4 (SF.args (.ref a) (.str name t) v) ?_)
  show wpAny _ _ (Builtin.«object.__setattr__» ⟨[.ref a, .str name t, v], []⟩) _ _ _
  rw [osa_eq, refuse_eq]
  refine wpAny_bind (wpAny_bind (L1.here (wpAny_bind (wpAny_mroOf_exc hC ?_))))
  rw [refuseLoop_ref, refuseLoop_ref, refuse_exc]
  refine wpAny_pure (wpAny_bind (L1.here (wpAny_bind (L3.here (wpAny_bind (wpAny_pure ?_))))))
  refine wpAny_mono (hq _ t) (fun fin s' z => ?_) fun _ _ z => z.elim
  obtain ⟨u, rfl, z⟩ := z
  exact wpAny_pure (wpAny_pure z)
theorem idict_new {Q : Option Addr → Shared → Prop} (I : ClsI h C P f) (O : ExAt h a o C) (hd : o.dict = none) {us : Array Value} (hf : o.data = .fields us)
    (hq : Q (some h.objs.size) ⟨(h.push { cls := .type "dict", data := .dict #[] }).update a fun ob => { ob with dict := some h.objs.size }, g, d, t, os⟩) : wpAny (model prog w) A (instanceDict a true) Q E ⟨h, g, d, t, os⟩ := by
  obtain ⟨nm, q, N, bs, sn, sub, ab, col, dd, k0, k1, k2, k3, k5, mN, hC, hn, hni, T⟩ := I.ex
  have hx := O.at_
  obtain ⟨oc, od, odt, osl⟩ := o
  have hc := O.cls
  dsimp only at hd hf hc
  subst hd hf hc
  have hx1 : (h.push { cls := .type "dict", data := .dict #[] }).get? a = some ⟨.ref C, none, .fields us, osl⟩ := Heap.get?_push_of_some _ hx
  unfold instanceDict
  repeat (first | with_reducible refine wpAny_loadPart_at hx ?_ | with_reducible refine wpAny_loadPart_at hC ?_ | wp_step)
  exact hq
/-- the store into a dict -/
theorem store_in {Q : Fin → Shared → Prop} {dx : Addr} {mA : Str → Option Value} {ns : List Str} {tk : Tok} (hn : h.Ns1 dx mA) (hw : Within mA ns) (hz : ns.length ≤ 100)
    (hq : ∀ h' tk', h'.Ns1 dx (fun y => if y = name then some v else mA y) → (∀ b ob, b ≠ dx → h.get? b = some ob → h'.get? b = some ob) → Q (.done (.ret .none)) ⟨h', g, d, tk', os⟩) :
    wpAny (model prog w) A (storeInDict dx (.str name tk) name v) Q E ⟨h, g, d, t, os⟩ := by
  unfold storeInDict newKeyGuard
  refine wpAny_bind (wpAny_pure (wpAny_bind (wpAny_nsSet1 hn fun h' hn' hs => ?_)))
  obtain ⟨oD, esD, epD, hoD, hdD, hcD⟩ := hn'.count (Within.cons name v hw)
  refine wpAny_bind (wpAny_lookBehind hoD (by rw [hdD]; exact pastItsLine_dict (Nat.le_trans hcD (by rw [List.length_cons, sizeLine_eq]; omega))) ?_)
  exact wpAny_pure (hq h' _ hn' fun b ob nb q => (hs.2 b nb).trans q)
/-- the first attribute: its dict is made -/
theorem exi_set_new {Q : Unit → Shared → Prop} (X : K.In h) (I : ClsI h C P f) (F : ExK K C) (sa : findIn K (.ref C) "__setattr__" = some (some (.builtin "object.__setattr__"))) (nn : findIn K (.ref C) name = some none) (O : ExAt h a o C) (hd : o.dict = none) {us : Array Value} (hf : o.data = .fields us)
    (hq : ∀ h' tk, h'.Ns1 h.objs.size (fun y => if y = name then some v else none) → h'.get? a = some { o with dict := some h.objs.size } → (∀ b ob, b ≠ a → h.get? b = some ob → h'.get? b = some ob) → Q () ⟨h', g, d, tk, os⟩) :
    wpAny (model prog w) A (setAttr (.ref a) name v) Q E ⟨h, g, d, t, os⟩ := by
  refine exi_set_open X I F sa nn O fun A' tk => ?_
  have hx := O.at_
  have ne : a ≠ h.objs.size := Nat.ne_of_lt (Heap.lt_size hx)
  have hx1 : (h.push { cls := .type "dict", data := .dict #[] }).get? a = some o := Heap.get?_push_of_some _ hx
  unfold storeInOwnDict
  refine wpAny_bind (wpAny_pure ?_)
  show wpAny _ _ (ownDictForStores (.ref a) >>= _) _ _ _
  refine wpAny_bind (idict_new I O hd hf ?_)
  have hgd : ((h.push { cls := .type "dict", data := .dict #[] }).update a fun ob => { ob with dict := some h.objs.size }).get? h.objs.size = some { cls := .type "dict", data := .dict #[] } :=
    (Heap.get?_update_other _ _ ne).trans (Heap.get?_push_at rfl rfl)
  have hga : ((h.push { cls := .type "dict", data := .dict #[] }).update a fun ob => { ob with dict := some h.objs.size }).get? a = some { o with dict := some h.objs.size } := by
    refine Heap.get?_update_self _ hx1 ?_
    obtain ⟨oc, od, odt, osl⟩ := o
    dsimp only at hf
    subst hf
    rfl
  have hnd : ((h.push { cls := .type "dict", data := .dict #[] }).update a fun ob => { ob with dict := some h.objs.size }).Ns h.objs.size (fun _ => none) := ⟨_, #[], _, hgd, rfl, fun e he => absurd he (by simp), fun _ => rfl⟩
  refine store_in (Heap.Ns1.of_empty hnd) (ns := []) Within.nil (by decide) fun h' tk' hn' hk => ⟨_, rfl, hq h' tk' hn' (hk a _ ne hga) fun b ob nb q => hk b ob (Nat.ne_of_lt (Heap.lt_size q)) ?_⟩
  exact (Heap.get?_update_other _ _ (Ne.symm nb)).trans (Heap.get?_push_of_some _ q)
/-! ### e.name -/
end
/-! ### in the layer -/
/-- what the top made of a class of errors with fields: no attribute of the class has a field's name -/
structure ExF (K : Frag) (C P f : Addr) (x : Str) : Prop where
  i : ExI K C P f
  sa : findIn K (.ref C) "__setattr__" = some (some (.builtin "object.__setattr__"))
  nn : findIn K (.ref C) x = some none
/-- the dict of an error -/
def xdE (a : Addr) (fs : List (Str × V)) : HO := .ext fun h => ∃ mA, h.Ns1 a mA ∧ (∀ g, RelO (fs.lookup g) (mA g)) ∧ Within mA (fs.map (·.1))
theorem xdE_ok {P : Program} {w : World} {H : Hp} {h : Heap} {a : Addr} {fs : List (Str × V)} {mA : Str → Option Value} (n : h.Ns1 a mA) (r : ∀ g, RelO (fs.lookup g) (mA g)) (wi : Within mA (fs.map (·.1))) : ObjOk P w H h a (xdE a fs) := by
  obtain ⟨o, es, ep, e, q⟩ := id n
  exact ⟨⟨mA, n, r, wi⟩, ⟨o, e⟩, fun h1 h2 ⟨m, n1, r1, w1⟩ k => ⟨m, n1.at k, r1, w1⟩⟩
theorem exN_ok {P : Program} {w : World} {H : Hp} {h : Heap} {a C : Addr} {dd : Option Addr} {o : Obj} {t : Value} (e : h.get? a = some o) (c : o.cls = .ref C) (dq : o.dict = dd) (fd : o.data = .fields #[t, .none, .none, .none, .bool false, .none]) : ObjOk P w H h a (exN a C dd) :=
  ⟨⟨o, t, ⟨e, c, dq⟩, fd⟩, ⟨o, e⟩, fun h1 h2 ⟨o, t, ⟨e1, e2, e3⟩, e4⟩ k => ⟨o, t, ⟨k o e1, e2, e3⟩, e4⟩⟩
section
variable {X : Cx} {pins : List (Addr × Obj)} {σ : St} {H : Hp} {s : Shared} {o e value : Expr} {x : Str} {pos pos' : Pos} {ta tv : TE} {C P f : Addr}
/-- a thing that was not there ahead is tracked -/
theorem Inv.trackNew {s' : Shared} {H' : Hp} (I : Inv X pins σ H s) (I' : Inv X pins σ H' s') {a : Addr} {u : HO} (hex : X.ex = []) (n : s.heap.get? a = none) (hn : H' a = none) (ok : ObjOk X.prog X.w (upd H' a u) s'.heap a u) : Inv X pins σ (upd H' a u) s' := by
  refine I'.track hn (I.absent0 hex n) (fun z => ?_) (fun y c q z => ?_) (fun p q z => ?_) ok
  · obtain ⟨m, ⟨oL, _, _, hoL, _⟩, _⟩ := I.loc
    rw [← z, n] at hoL
    cases hoL
  · obtain ⟨v, o, ho, _⟩ := I.cell y c q
    rw [z, n] at ho
    cases ho
  · have := (I.pin p q).1
    rw [z, n] at this
    cases this
/-- e.x = value, the first one -/
def sExN (K : Frag) (C P f : Addr) (ta tv : TE) (x : Str) : TS := fun D σ H => tv σ H fun y H1 => ta σ H1 fun z H2 => ∃ a, z = .ref a ∧ H2 a = some (exN a C none) ∧ ExF K C P f x ∧
  ∀ dx, H2 dx = none → dx ≠ a → D.nx σ (upd (upd H2 a (exN a C (some dx))) dx (xdE dx [(x, y)]))
theorem ps_exN (hex : X.ex = []) (ha : PE X o ta) (hv : PE X value tv) (hs : swapsWith value (some (.Attribute o x pos')) pos.line X.env = pure false) : PS X (.Assign [.Attribute o x pos'] value pos) (sExN X.K C P f ta tv x) := by
  intro pins s σ H D I h
  refine plainObj_wpAny_Assign_Attribute (thn (hv pins s σ H _ I h) fun u s1 ⟨y, H1, I1, ry, q⟩ => thn (ha pins s1 σ H1 _ I1 q) fun ov s2 ⟨z, H2, I2, rx, a, ez, ea, F, q2⟩ => ?_) hs
  subst ez
  obtain rfl : ov = Value.ref a := rx
  obtain ⟨⟨ob, t', ⟨o1, o2, o3⟩, o4⟩, _⟩ := I2.hok _ _ ea
  have nz : s2.heap.get? s2.heap.objs.size = none := Heap.get?_none_of_le (Nat.le_refl _)
  have Hz : H2 s2.heap.objs.size = none := I2.hok.fresh (Nat.le_refl _)
  have ne : s2.heap.objs.size ≠ a := Nat.ne_of_gt (Heap.lt_size o1)
  obtain ⟨hh, g, d, tk, os⟩ := s2
  refine exi_set_new I2.kIn (clsI_of I2.kIn F.i.xi) F.i.k F.sa F.nn ⟨o1, o2⟩ o3 o4 fun h' tk' hn' ga ks => ?_
  have J1 : Inv X pins σ (upd H2 a (exN a C (some hh.objs.size))) ⟨h', g, d, tk', os⟩ := by
    refine I2.write (x := a) (e := a) (t' := tk') (by rw [ea]; exact True.intro) (.inl rfl) ks ⟨_, ga⟩ ?_
    exact exN_ok ga o2 rfl o4
  have J2 := I2.trackNew J1 (a := hh.objs.size) (u := xdE hh.objs.size [(x, y)]) hex nz (by rw [upd_ne ne]; exact Hz) (xdE_ok hn' (fun g => ?_) (fun g hg => ?_))
  · exact ⟨σ, _, J2, q2 _ Hz ne⟩
  · by_cases z : g = x
    · subst z
      simp only [List.lookup, beq_self_eq_true, if_true]
      exact ry
    · have : ([(x, y)] : List (Str × V)).lookup g = none := by
        simp only [List.lookup]
        rw [beq_eq_false_iff_ne.mpr z]
      rw [this, if_neg z]
      exact True.intro
  · by_cases z : g = x
    · rw [z]; simp
    · rw [if_neg z] at hg
      exact absurd rfl hg
end
end L2

namespace L2
open PySem PySem.Spec PyProof.Rows PySem.W PySem.Builtin PySem.Builtin.ObjectAttr
section
variable {prog : Program} {w : World} {A : Around} {E : Value → Shared → Prop} {h : Heap} {g : Array GenState} {d : Drawn} {t : Nat} {os : OsState} {K : Frag} {C P f a : Addr} {o : Obj} {v : Value}
/-- the base's __init__ of an error that is being made: its args are laid -/
theorem binit_call {Q : Value → Shared → Prop} {rest : List Value} {us : Array Value} {a0 : Value} (I : ClsI h C P f) (O : ExAt h a o C) (hf : o.data = .fields us) (h0 : us[0]? = some a0) (hz : rest.length ≤ sizeLine)
    (hq : Q .none ⟨(h.push { cls := .type "tuple", data := .seq rest.toArray }).update a (Obj.mapFields (·.setIfInBounds 0 (.ref h.objs.size))), g, d, t, os⟩) :
    wpAny (model prog w) A (call (.builtin "ValueError.__init__") (.ref a :: rest)) Q E ⟨h, g, d, t, os⟩ := by
  obtain ⟨nm, q, N, bs, sn, sub, ab, col, dd, k0, k1, k2, k3, k5, mN, hC, hn, hni, T⟩ := I.ex
  have F := PySem.F.excBase_ValueError
  have z0 : 0 < us.size := (Array.getElem?_eq_some_iff.mp h0).1
  have g1 := Heap.get?_push_of_some (h := h) { cls := .type "tuple", data := .seq rest.toArray } O.at_
  refine wpAny_call (codeAny_call_builtin F.init.plain F.initEntry (wpAny_check_init_subU F T hC O.at_ O.cls ?_))
  unfold Builtin.«BaseException.__init__»
  dsimp only
  rw [if_neg (by simp)]
  unfold newTuple Builtin.BaseException.bexcPut
  refine wpAny_bind (wpAny_newObj_type ?_ (by show rest.toArray.size ≤ sizeLine; rw [List.size_toArray]; exact hz))
  refine wpAny_bind (wpAny_bind (wpAny_field g1 hf h0 (wpAny_bind (wpAny_setField g1 hf z0 ?_))))
  split
  · refine wpAny_letGo ?_
    exact wpAny_pure hq
  · exact wpAny_pure (wpAny_pure hq)
end
/-- the class whose __init__ is called by its name -/
structure BaseI (K : Frag) (P : Addr) : Prop where
  rd : readsIn K P (.type "type") = true
  fc : findCls K (.ref P) (.type "type") "__init__" = some (.val (.builtin "ValueError.__init__"))
  ga : specialIn K (.ref P) "__getattribute__" = some (some (.builtin "type.__getattribute__"))
section
variable {X : Cx} {C P f : Addr} {x : Str} {p apos pos : Pos} {e₁ e₂ : Expr} {t : TA}
/-- Base.__init__(self, text) -/
def tBInit (K : Frag) (P : Addr) (t : TA) : TE := fun σ H Q => t σ H fun vs H1 => ∃ a C dd f txt, vs = [.ref a, .str txt] ∧ H1 a = some (exN a C dd) ∧ ExI K C P f ∧ Q .non H1
theorem upd_id {H : Hp} {a : Addr} {o : HO} (h : H a = some o) : upd H a o = H := by
  funext b
  by_cases z : b = a
  · rw [z, upd_same, h]
  · rw [upd_ne z]
theorem pe_binit {pl : Sem Bool} (hg : Gl X x) (hm : X.mg x = some (.ref P)) (B : BaseI X.K P) (ha : PA X [e₁, e₂] t) (hdb : (x == ("__debug__" : Str)) = false := by decide)
    (hst : starEach [e₁, e₂] X.env = (false, eval e₁ X.env) :: starEach [e₂] X.env := by rfl) (hpl : (backTo pos (starEach [e₂] X.env)).any (·.1) = false := by rfl)
    (ht : eval (.Call (.Attribute (.Name x p) "__init__" apos) [e₁, e₂] [] pos) X.env = (do
      let ov ← eval (.Name x p) X.env
      standAt apos.atName
      let (f, first) ← holding [ov] (getMethod ov "__init__" pl)
      callWith pos f first (backTo pos (starEach [e₁, e₂] X.env)) (backToKw pos (keywordEach [] X.env))) := by rfl) :
    PE X (.Call (.Attribute (.Name x p) "__init__" apos) [e₁, e₂] [] pos) (tBInit X.K P t) := by
  intro pins s σ H Q I h
  refine PySem.W.methodCall_KW (pl := pl) (ld_glob I hg hm ?_ hdb) ht
  refine method_cls I.kIn B.ga (cls_value I.kIn B.rd B.fc rfl ?_)
  have I0 := I.tok (s.toks + 1)
  have hA := ha pos pins _ σ H _ I0 h
  rw [hst] at hA ⊢
  refine Calls.callWith_builtin (by show (false || (backTo pos (starEach [e₂] X.env)).any (·.1)) = false; rw [hpl] <;> rfl) (Calls.evalArgs_plain (thn hA fun us s2 ⟨vs, H2, I2, r2, a, C, dd, f, txt, e1, ea, F, q2⟩ => ?_))
  subst e1
  obtain ⟨u1, u2, rfl, ra, rt⟩ := r2.two
  obtain rfl : u1 = Value.ref a := ra
  obtain ⟨⟨ob, t', ⟨o1, o2, o3⟩, o4⟩, _⟩ := I2.hok _ _ ea
  obtain ⟨hh, g, d, tk, os⟩ := s2
  refine binit_call (clsI_of I2.kIn F.xi) ⟨o1, o2⟩ o4 rfl (by show 1 ≤ sizeLine; decide) ?_
  have g1 := Heap.get?_push_of_some (h := hh) { cls := .type "tuple", data := .seq [u2].toArray } o1
  have d1 := Obj.data_mapFields o4 (·.setIfInBounds 0 (Value.ref hh.objs.size))
  have g2 := Heap.get?_update_self (Obj.mapFields (·.setIfInBounds 0 (Value.ref hh.objs.size))) g1 (Obj.isFreed_of_fields d1)
  have J : Inv X pins σ (upd H2 a (exN a C dd)) ⟨(hh.push { cls := .type "tuple", data := .seq [u2].toArray }).update a (Obj.mapFields (·.setIfInBounds 0 (.ref hh.objs.size))), g, d, tk, os⟩ := by
    refine I2.write (x := a) (e := a) (t' := tk) (by rw [ea]; exact True.intro) (.inl rfl) (fun b u nb q => ?_) ⟨_, g2⟩ ?_
    · exact (Heap.get?_update_other _ _ (Ne.symm nb)).trans (Heap.get?_push_of_some _ q)
    · exact exN_ok g2 ((Obj.cls_mapFields _ _).trans o2) ((dict_mf _ _).trans o3) d1
  rw [upd_id ea] at J
  exact ⟨.non, H2, J, rfl, q2⟩
/-! ### e.x of an error that was caught -/
def tExF (K : Frag) (ta : TE) (x : Str) : TE := fun σ H Q => ta σ H fun z H1 => ∃ a C P f dx fs v, z = .ref a ∧ H1 a = some (excD a C (some dx)) ∧ H1 dx = some (xdE dx fs) ∧ ExF K C P f x ∧ fs.lookup x = some v ∧ Q v H1
end
end L2

namespace L2
open PySem PySem.Spec PyProof.Rows PySem.W
/-! ### f-strings -/
/-- what stands in an f-string for a value -/
def FmtV : V → Str → Prop
  | .int i, x => i.natAbs.log2 < 1920 ∧ x = (toString i : String)
  | .str y, x => y.length ≤ sizeLine ∧ x = y
  | .non, x => x = "None"
  | _, _ => False
def tFmt (ta : TE) : TE := fun σ H Q => ta σ H fun v H1 => ∃ x, FmtV v x ∧ Q (.str x) H1
abbrev TJ := Str → St → Hp → (Str → Hp → Prop) → Prop
/-- the parts of an f-string, behind what was joined so far -/
def PJ (X : Cx) (es : List Expr) (t : TJ) : Prop :=
  ∀ (acc : Str) (pins : List (Addr × Obj)) (s : Shared) (σ : St) (H : Hp) (Q : Str → Hp → Prop), Inv X pins σ H s → t acc σ H Q → wpAny (model X.prog X.w) X.A (joinParts acc (evalEach es X.env)) (EP X pins σ fun v H' => ∃ x, v = .str x ∧ Q x H') X.xe s
def jNil : TJ := fun acc _ H Q => acc.length ≤ sizeLine ∧ Q acc H
def jCons (te : TE) (tr : TJ) : TJ := fun acc σ H Q => te σ H fun v H1 => ∃ x, v = .str x ∧ (acc ++ x).length ≤ sizeLine ∧ tr (acc ++ x) σ H1 Q
def tJoin (t : TJ) : TE := fun σ H Q => t Str.empty σ H fun x H' => Q (.str x) H'
section
variable {X : Cx} {value e e' : Expr} {es : List Expr} {ta te : TE} {tr t : TJ} {pos : Pos}
theorem pe_fmt (ha : PE X value ta) : PE X (.FormattedValue value (-1) none pos) (tFmt ta) := by
  intro pins s σ H Q I h
  refine FormattedValue_plain (thn (ha pins s σ H _ I h) fun u s1 ⟨v, H1, I1, rv, x, fx, q⟩ => ?_)
  cases v with
  | int i =>
    obtain ⟨t, rfl⟩ := rv
    obtain ⟨hl, rfl⟩ := fx
    exact formatField_int_small hl ⟨.str _, H1, I1.tok _, ⟨_, rfl⟩, q⟩
  | str y =>
    obtain ⟨t, rfl⟩ := rv
    obtain ⟨hl, rfl⟩ := fx
    exact formatField_str (fun t' tk => ⟨.str x, H1, I1.tok _, ⟨_, rfl⟩, q⟩) hl
  | non =>
    cases rv
    cases fx
    exact wpAny_formatField_none ⟨.str _, H1, I1.tok _, ⟨_, rfl⟩, q⟩
  | bl _ => exact fx.elim
  | byt _ => exact fx.elim
  | flt _ => exact fx.elim
  | ref _ => exact fx.elim
  | ty _ => exact fx.elim
theorem pj_nil : PJ X [] jNil := fun acc pins s σ H Q I h => joinParts_nil ⟨.str acc, H, I.tok _, ⟨_, rfl⟩, acc, rfl, h.2⟩ h.1
theorem pj_cons (he : PE X e te) (hr : PJ X es tr) : PJ X (e :: es) (jCons te tr) := by
  intro acc pins s σ H Q I h
  show wpAny _ _ (joinParts acc (eval e X.env :: evalEach es X.env)) _ _ _
  refine joinParts_cons (thn (he pins s σ H _ I h) fun u s1 ⟨v, H1, I1, rv, x, ev, hz, q⟩ => ?_)
  subst ev
  obtain ⟨t, rfl⟩ := rv
  exact ⟨hz, hr _ pins s1 σ H1 Q I1 q⟩
theorem pe_join (h : PJ X (e :: e' :: es) t) : PE X (.JoinedStr (e :: e' :: es) pos) (tJoin t) := by
  intro pins s σ H Q I hw
  refine JoinedStr_many (thn (h _ pins s σ H _ I hw) fun u s1 ⟨v, H1, I1, rv, x, ev, q⟩ => ?_)
  subst ev
  exact ⟨.str x, H1, I1, rv, q⟩
end
end L2

namespace L2
open PySem PySem.Spec PyProof.Rows PySem.W
/-! ### over a text, sign by sign -/
def Its (x : Str) : It := ⟨fun i _ => ∃ c, x.cps[i]? = some c, fun i H v H' => H' = H ∧ ∃ c, x.cps[i]? = some c ∧ v = .str ⟨#[c]⟩, fun i _ => x.cps[i]? = none⟩
def iStr (tl : TE) : TI := fun σ H R => tl σ H fun v H1 => ∃ x, v = .str x ∧ R (Its x) H1
section
variable {X : Cx}
end
/-! ### methods of texts -/
def rPart : V → List V → Hp → VK → Prop := fun z vs H Q => ∃ x y, z = .str x ∧ vs = [.str y] ∧ (y.length == 0) = false ∧ x.length ≤ sizeLine ∧ ∀ p, H p = none → Q (.ref p) (upd H p (.tup [.str (Txt.partition x y).1, .str (Txt.partition x y).2.1, .str (Txt.partition x y).2.2]))
def rSplit : V → List V → Hp → VK → Prop := fun z vs H Q => ∃ x y, z = .str x ∧ vs = [.str y] ∧ (y.length == 0) = false ∧ x.length + 2 ≤ sizeLine ∧ ∀ p, H p = none → Q (.ref p) (upd H p (.lst ((Txt.split x y).map V.str)))
section
variable {X : Cx}
end
end L2
namespace L2
open PySem PySem.Spec PyProof.Rows PySem.W
section
variable {X : Cx}
/-! ### int(text), any and all of bools, text * number -/
/-! ### text * number, text[a:b] -/
/-! ### a list against the empty one -/
theorem op_neE (hu : X.A.units + 64 < cLine) : OpR X (compareOp .NotEq) (fun x y H Q => ∃ a b xs, x = .ref a ∧ y = .ref b ∧ SqL X.K H a xs ∧ SqL X.K H b [] ∧ Q (.bl (!xs.isEmpty)) H) := by
  intro pins s σ H x y v u Q I rx ry h
  obtain ⟨a, b, xs, rfl, rfl, ha, hb, q⟩ := h
  cases rx
  cases ry
  obtain ⟨its, r, p, _⟩ := I.list ha
  obtain ⟨its', r', p', _⟩ := I.list hb
  cases r'
  cases r with
  | nil => exact SeqAt.RcNeAt.lists (A := X.A) (e := fun _ => true) p.isList p'.isList rfl (by omega) (fun j h1 => absurd h1 (by simp)) X.prog X.w X.xe _ ⟨.bl _, H, I, rfl, q⟩
  | cons r t => exact SeqAt.RcNeAt.lists_lengths (A := X.A) p.isList p'.isList rfl (by omega) X.prog X.w X.xe _ ⟨.bl _, H, I, rfl, q⟩
end
end L2

/-! texts of figures, and of amounts, as lists of codes -/
namespace TM
open PySem PySem.NumText
/-- the figures of a number -/
def dg (n : Nat) : List Nat := (Nat.toDigits 10 n).map Char.toNat
theorem dg_len {n : Nat} (h : n < 10 ^ 60) : (dg n).length ≤ 60 := by
  unfold dg
  rw [List.length_map]
  exact PyProof.Rows.digits10_le (by decide) h
/-- figures without a nought ahead of others -/
structure Fig (cs : List Nat) : Prop where
  ne : cs ≠ []
  len : cs.length ≤ 60
  all : AllDigits cs
  no : cs.head? = some 48 → cs.length = 1
/-- the text L writes the amount t / b -/
def Reads (L : List Nat) (t b : Nat) : Prop :=
  (Fig L ∧ t = digitsVal L ∧ b = 1) ∨ ∃ p q, L = p ++ 47 :: q ∧ Fig p ∧ Fig q ∧ t = digitsVal p ∧ b = digitsVal q ∧ 2 ≤ b ∧ Nat.gcd t b = 1
def showL (t b : Nat) : List Nat := if b = 1 then dg t else dg t ++ 47 :: dg b
end TM
namespace TM
open PySem PySem.StrLaws PySem.Builtin PySem.Builtin.Str
abbrev cps (x : Str) : List Nat := x.cps.toList
abbrev sl : Str := ⟨#[47]⟩
theorem cps_append' (x y : Str) : cps (x ++ y) = cps x ++ cps y := by
  show (x.cps ++ y.cps).toList = _
  rw [Array.toList_append]
end TM

namespace L2
open PySem PySem.Spec PyProof.Rows PySem.W
def rCount : V → List V → Hp → VK → Prop := fun x vs H Q => ∃ l xs y, x = .ref l ∧ vs = [y] ∧ H l = some (.lst xs) ∧ flatV y = true ∧ xs.all flatV = true ∧ Q (.int ((xs.countP fun z => eqV z y : Nat) : Int)) H
def rIndex : V → List V → Hp → VK → Prop := fun x vs H Q => ∃ l xs y, ∃ j : Nat, ∃ z, x = .ref l ∧ vs = [y] ∧ H l = some (.lst xs) ∧ flatV y = true ∧ xs.all flatV = true ∧ xs[j]? = some z ∧ eqV z y = true ∧
  (∀ m z, m < j → xs[m]? = some z → eqV z y = false) ∧ Q (.int (j : Int)) H
section
variable {X : Cx}
end
def Nx (n i : Nat) (P : Prop) : Prop := ∃ m', m' < n - i ∧ m' = n - (i + 1) ∧ i + 1 ≤ n ∧ P
theorem blkN_none {X : Cx} {scope : Scope} {N' : List Str} {cl : List (Str × Addr)} {σ : St} : BlkN X N' scope cl σ (List.replicate N'.length none) := by
  refine ⟨by simp, fun i x v h1 h2 => ?_⟩
  rw [List.getElem?_replicate] at h2
  split at h2 <;> cases h2
end L2

namespace L2
open PySem PySem.Spec PyProof.Rows
/-! ### an empty dict, of which it is only known that it is one -/
def dcE (a : Addr) : HO := .ext fun h => ∃ o, h.get? a = some o ∧ o.cls = .type "dict"
def tDict0 : TE := fun _ H Q => ∀ p, H p = none → Q (.ref p) (upd H p (dcE p))
section
variable {X : Cx} {pos : Pos}
/-- isinstance against a built-in type, a dict among the things that are asked -/
def IsiD (K : PySem.W.Frag) (H : Hp) (v : V) (T : String) (b : Bool) : Prop := Isi K H v T b ∨ ∃ a, v = .ref a ∧ H a = some (dcE a) ∧ T = "str" ∧ b = false
end
end L2

namespace L2
open PySem PySem.Spec PyProof.Rows PySem.W
section
variable {X : Cx}
end
end L2
namespace TM
open PySem PySem.Spec PyProof.Rows PySem.W
/-- the letter j places on, round the 26 -/
def rd (c j : Nat) : Nat := 97 + (c - 97 + j) % 26
abbrev LET : Str := "abcdefghijklmnopqrstuvwxyz"
end TM

namespace L2
open PySem PySem.Spec PyProof.Rows
/-! ### == and != of lists -/
def rEqL (K : PySem.W.Frag) : R2 := fun x y H Q => ∃ a b xs ys, ∃ e : Nat → Bool, x = .ref a ∧ y = .ref b ∧ SqL K H a xs ∧ SqL K H b ys ∧ (∀ (j : Nat) x y, xs[j]? = some x → ys[j]? = some y → DEq K H 40 x y (e j)) ∧
  Q (.bl ((List.range (min xs.length ys.length)).all e && xs.length == ys.length)) H
def rNeL (K : PySem.W.Frag) : R2 := fun x y H Q => ∃ a b xs ys, ∃ e : Nat → Bool, x = .ref a ∧ y = .ref b ∧ SqL K H a xs ∧ SqL K H b ys ∧ (∀ (j : Nat) x y, xs[j]? = some x → ys[j]? = some y → DEq K H 40 x y (e j)) ∧
  Q (.bl (!((List.range (min xs.length ys.length)).all e && xs.length == ys.length))) H
section
variable {X : Cx}
theorem nels_at {pins : List (Addr × Obj)} {σ : St} {H : Hp} {s : Shared} (I : Inv X pins σ H s) {A : Around} {a b : Addr} {xs ys : List V} {e : Nat → Bool} (hx : SqL X.K H a xs) (hy : SqL X.K H b ys) (hu : A.units < cLine)
    (hd : ∀ (j : Nat) x y u v, xs[j]? = some x → ys[j]? = some y → RelV x u → RelV y v → SeqAt.EqAt A.in1 s u v (e j)) :
    SeqAt.RcNeAt A s (.ref a) (.ref b) (!((List.range (min xs.length ys.length)).all e && xs.length == ys.length)) := by
  obtain ⟨its, r, tx, _⟩ := I.list hx
  obtain ⟨its', r', ty, _⟩ := I.list hy
  have l1 := r.length
  have l2 := r'.length
  by_cases hl : xs.length = ys.length
  · have q := SeqAt.RcNeAt.lists (A := A) (e := e) (isList_of tx) (isList_of ty) (by rw [List.size_toArray, List.size_toArray]; omega) hu (fun j h1 h2 => ?_)
    · rw [List.size_toArray, ← l1] at q
      have e1 : ((List.range (min xs.length ys.length)).all e && xs.length == ys.length) = (List.range xs.length).all e := by
        rw [← hl, Nat.min_self, beq_self_eq_true, Bool.and_true]
      rw [e1]
      exact q
    · rw [List.size_toArray] at h1 h2
      obtain ⟨x, hxj⟩ : ∃ x, xs[j]? = some x := ⟨_, List.getElem?_eq_getElem (by omega)⟩
      obtain ⟨y, hyj⟩ : ∃ y, ys[j]? = some y := ⟨_, List.getElem?_eq_getElem (by omega)⟩
      obtain ⟨u1, hu1, ru1⟩ := r.get hxj
      obtain ⟨u2, hu2, ru2⟩ := r'.get hyj
      have e1 : its.toArray[j] = u1 := by
        have := (List.getElem?_eq_some_iff.mp hu1).2
        simpa using this
      have e2 : its'.toArray[j] = u2 := by
        have := (List.getElem?_eq_some_iff.mp hu2).2
        simpa using this
      rw [e1, e2]
      exact hd j x y u1 u2 hxj hyj ru1 ru2
  · have q := SeqAt.RcNeAt.lists_lengths (A := A) (isList_of tx) (isList_of ty) (by rw [List.size_toArray, List.size_toArray, ← l1, ← l2, bne_iff_ne]; exact hl) hu
    have e1 : ((List.range (min xs.length ys.length)).all e && xs.length == ys.length) = false := by
      rw [beq_eq_false_iff_ne.mpr hl, Bool.and_false]
    rw [e1]
    exact q
theorem op_neL (hu : X.A.units + 64 < cLine) : OpR X (compareOp .NotEq) (rNeL X.K) := by
  intro pins s σ H x y v u Q I rx ry h
  obtain ⟨a, b, xs, ys, e, rfl, rfl, hx, hy, hd, q⟩ := h
  cases rx; cases ry
  exact nels_at I hx hy (by omega) (fun j x y u v h1 h2 r1 r2 => (hd j x y h1 h2).at I (by show X.A.units + 1 + 40 < cLine; omega) r1 r2) X.prog X.w X.xe _ ⟨.bl _, H, I, rfl, q⟩
end
/-- a value that equals itself at sight -/
def Sf (v : V) : Prop := flatV v = true ∨ ∃ a, v = .ref a
theorem eqV_self {v : V} (h : flatV v = true) : eqV v v = true := by
  cases v <;> simp_all [flatV, eqV]
theorem DEq.self {K : PySem.W.Frag} {H : Hp} {n : Nat} {v : V} (h : Sf v) : DEq K H n v v true := by
  rcases h with h | ⟨a, rfl⟩
  · have := DEq.flat (K := K) (H := H) (n := n) h h
    rwa [eqV_self h] at this
  · exact .same
theorem all_true (n : Nat) (m : Nat) (h : n = m) : ((List.range (min n m)).all (fun _ => true) && n == m) = true := by
  subst h
  rw [beq_self_eq_true, Bool.and_true, List.all_eq_true]
  exact fun _ _ => rfl
/-- two lists of the same things -/
def rNeLs (K : PySem.W.Frag) : R2 := fun x y H Q => ∃ a b xs, x = .ref a ∧ y = .ref b ∧ SqL K H a xs ∧ SqL K H b xs ∧ (∀ v ∈ xs, Sf v) ∧ Q (.bl false) H
theorem op_neLs {X : Cx} (hu : X.A.units + 64 < cLine) : OpR X (compareOp .NotEq) (rNeLs X.K) := by
  intro pins s σ H x y v u Q I rx ry h
  obtain ⟨a, b, xs, rfl, rfl, hx, hy, hd, q⟩ := h
  refine op_neL hu pins s σ H _ _ v u Q I rx ry ⟨a, b, xs, xs, fun _ => true, rfl, rfl, hx, hy, fun j x y h1 h2 => ?_, ?_⟩
  · rw [h1] at h2
    cases h2
    exact DEq.self (hd _ (List.mem_of_getElem? h1))
  · rw [all_true _ _ rfl]
    exact q
end L2

namespace L2
open PySem PySem.Spec PyProof.Rows
theorem bt_lt (n : Nat) {x c : Int} (h0 : 0 ≤ x) (h : x < c) (hc : c ≤ ((2 ^ n : Nat) : Int) := by decide +kernel) : Bt n x := by
  unfold Bt
  omega
theorem emod_in (x : Int) {m : Int} (h : 0 < m) : 0 ≤ x % m ∧ x % m < m := ⟨Int.emod_nonneg x (by omega), Int.emod_lt_of_pos x h⟩
theorem natOf {i m : Int} (h : 0 < m) : ∃ j : Nat, i % m = (j : Int) ∧ (j : Int) < m := ⟨(i % m).toNat, by have := Int.emod_nonneg i (show m ≠ 0 by omega); omega, by have := Int.emod_nonneg i (show m ≠ 0 by omega); have := Int.emod_lt_of_pos i h; omega⟩
theorem b6 {n : Nat} {x : Int} (h : Bt n x) (hn : n ≤ 1000000 := by decide) : Bt 1000000 x := h.mono hn
theorem bl {c : Int} (h0 : 0 ≤ c := by decide) (h : c < 18446744073709551616 := by decide) : Bt 1000000 c := b6 (bt_lt 64 h0 h)
theorem b9 {c : Int} (h0 : 0 ≤ c := by decide) (h : c < 18446744073709551616 := by decide) : Bt 9000 c := (bt_lt 64 h0 h).mono (by decide)
theorem bt_int : bootBuiltins "int" = some (.type "int") := by decide +kernel
theorem bt_bool : bootBuiltins "bool" = some (.type "bool") := by decide +kernel
theorem bt_tuple : bootBuiltins "tuple" = some (.type "tuple") := by decide +kernel
theorem bt_list : bootBuiltins "list" = some (.type "list") := by decide +kernel
theorem bt_abs : bootBuiltins "abs" = some (.builtin "abs") := by decide +kernel
/-! ### the tuples stay -/
def Tk (H H' : Hp) : Prop := ∀ b ys, H b = some (.tup ys) → H' b = some (.tup ys)
theorem Same.tk {H H' : Hp} (s : Same H H') : Tk H H' := fun b ys e => s b _ e
theorem Tk.lst {H : Hp} {l : Addr} {xs : List V} {o : HO} (h : H l = some (.lst xs)) : Tk H (upd H l o) := fun b ys e => by
  have ne : b ≠ l := fun z => by rw [z, h] at e; cases e
  rw [upd_ne ne]
  exact e
theorem sz1000 {n : Nat} (h : n ≤ 1000) : n ≤ sizeLine := Nat.le_trans h (by decide)
/-! ### displays of many elements -/
def starFree : Expr → Bool
  | .Starred .. => false
  | _ => true
end L2

namespace L2
open PySem PySem.Spec PyProof.Rows
/-! ### what a value tells: flat things, and tuples of such, at any depth -/
inductive Dt where
  | i (n : Int)
  | s (x : Str)
  | b (k : Bool)
  | n
  | t (l : List Dt)
/-- a tuple that nothing changes: one of the heap, or of the module -/
def SqZ (K : PySem.W.Frag) (H : Hp) (a : Addr) (xs : List V) : Prop := H a = some (.tup xs) ∨ ∃ (o : Obj) (its : Array Value) (n : Nat), K.lookup a = some o ∧ o.cls = .type "tuple" ∧ o.data = .seq its n ∧ its.size ≤ sizeLine ∧ Vals xs its.toList
theorem SqZ.of {K : PySem.W.Frag} {H : Hp} {a : Addr} {xs : List V} (h : H a = some (.tup xs)) : SqZ K H a xs := .inl h
theorem SqZ.sq {K : PySem.W.Frag} {H : Hp} {a : Addr} {xs : List V} (h : SqZ K H a xs) : SqT K H a xs := by
  rcases h with h | h
  · exact .inl (.inl h)
  · exact .inr h
theorem Tk.sqz {K : PySem.W.Frag} {H H' : Hp} {a : Addr} {xs : List V} (e : Tk H H') (h : SqZ K H a xs) : SqZ K H' a xs := by
  rcases h with h | h
  · exact .inl (e _ _ h)
  · exact .inr h
inductive Dv (K : PySem.W.Frag) (H : Hp) : Nat → V → Dt → Prop where
  | i {n m} : Dv K H n (.int m) (.i m)
  | s {n x} : Dv K H n (.str x) (.s x)
  | b {n k} : Dv K H n (.bl k) (.b k)
  | n {n} : Dv K H n .non .n
  | t {n a xs ds} : SqZ K H a xs → xs.length = ds.length → (∀ (j : Nat) x d, xs[j]? = some x → ds[j]? = some d → Dv K H n x d) → Dv K H (n + 1) (.ref a) (.t ds)
/-- lists of such things -/
def DL (K : PySem.W.Frag) (H : Hp) (n : Nat) (xs : List V) (ds : List Dt) : Prop := xs.length = ds.length ∧ ∀ (j : Nat) x d, xs[j]? = some x → ds[j]? = some d → Dv K H n x d
/-- the same list of things, told twice -/
def rEqDL (K : PySem.W.Frag) : R2 := fun x y H Q => ∃ a b xs ys ds, x = .ref a ∧ y = .ref b ∧ SqL K H a xs ∧ SqL K H b ys ∧ DL K H 40 xs ds ∧ DL K H 40 ys ds ∧ Q (.bl true) H
def rNeDL (K : PySem.W.Frag) : R2 := fun x y H Q => ∃ a b xs ys ds, x = .ref a ∧ y = .ref b ∧ SqL K H a xs ∧ SqL K H b ys ∧ DL K H 40 xs ds ∧ DL K H 40 ys ds ∧ Q (.bl false) H
def rEqDT (K : PySem.W.Frag) : R2 := fun x y H Q => ∃ a b xs ys ds, x = .ref a ∧ y = .ref b ∧ SqT K H a xs ∧ SqT K H b ys ∧ DL K H 40 xs ds ∧ DL K H 40 ys ds ∧ Q (.bl true) H
def rNeDT (K : PySem.W.Frag) : R2 := fun x y H Q => ∃ a b xs ys ds, x = .ref a ∧ y = .ref b ∧ SqT K H a xs ∧ SqT K H b ys ∧ DL K H 40 xs ds ∧ DL K H 40 ys ds ∧ Q (.bl false) H
section
variable {X : Cx}
end
end L2

namespace L2
open PySem PySem.Spec PyProof.Rows
/-! ### a comprehension that takes names over -/
theorem closure_go {env : Env} : ∀ (names : List (Str × NameKind)) (acc : List (Str × Addr)), (∀ y ∈ names, y.2 = NameKind.free → ∃ c, env.cells.lookup y.1 = some c) → (∀ x c, acc.lookup x = some c → env.cells.lookup x = some c) →
    ∃ cl, (forIn (m := Sem) names acc (fun x r => do if (x.2 == NameKind.free) = true then do let c ← cellOf env x.1; pure (ForInStep.yield ((x.1, c) :: r)) else pure (ForInStep.yield r))) = pure cl ∧
      (∀ x c, cl.lookup x = some c → env.cells.lookup x = some c) ∧ (∀ y ∈ names, y.2 = NameKind.free → ∃ c, cl.lookup y.1 = some c) ∧ ∀ x, (∃ c, acc.lookup x = some c) → ∃ c, cl.lookup x = some c
  | [], acc, _, h2 => ⟨acc, rfl, h2, (fun y hy => by simp at hy), fun _ h => h⟩
  | y :: r, acc, h1, h2 => by
    by_cases e : y.2 = NameKind.free
    · obtain ⟨c, hc⟩ := h1 y List.mem_cons_self e
      obtain ⟨cl, e1, e2, e3, e4⟩ := closure_go r ((y.1, c) :: acc) (fun z hz => h1 z (List.mem_cons_of_mem _ hz)) (fun x d hx => by
        rw [List.lookup_cons] at hx
        split at hx
        · rename_i hb
          have : x = y.1 := eq_of_beq hb
          rw [this, hc]
          exact hx
        · exact h2 x d hx)
      refine ⟨cl, ?_, e2, fun z hz ez => ?_, fun x hx => e4 x ?_⟩
      · rw [List.forIn_cons, if_pos (by rw [e]; rfl)]
        unfold cellOf
        rw [hc]
        simp only [pure_bind]
        exact e1
      · rcases List.mem_cons.mp hz with rfl | hz
        · exact e4 z.1 ⟨c, by rw [List.lookup_cons, beq_self_eq_true]⟩
        · exact e3 z hz ez
      · obtain ⟨d, hd⟩ := hx
        rw [List.lookup_cons]
        split
        · exact ⟨c, rfl⟩
        · exact ⟨d, hd⟩
    · obtain ⟨cl, e1, e2, e3, e4⟩ := closure_go r acc (fun z hz => h1 z (List.mem_cons_of_mem _ hz)) h2
      refine ⟨cl, ?_, e2, fun z hz ez => ?_, e4⟩
      · rw [List.forIn_cons, if_neg (by intro z; exact e (eq_of_beq z))]
        simp only [pure_bind]
        exact e1
      · rcases List.mem_cons.mp hz with rfl | hz
        · exact absurd ez e
        · exact e3 z hz ez
theorem closure_ok {scope : Scope} {env : Env} (h : ∀ y ∈ scope.names, y.2 = NameKind.free → ∃ c, env.cells.lookup y.1 = some c) :
    ∃ cl, closureFor scope env = pure cl ∧ (∀ x c, cl.lookup x = some c → env.cells.lookup x = some c) ∧ ∀ y ∈ scope.names, y.2 = NameKind.free → ∃ c, cl.lookup y.1 = some c := by
  obtain ⟨cl, e1, e2, e3, _⟩ := closure_go (env := env) scope.names [] h (fun x c e => by simp at e)
  refine ⟨cl, ?_, e2, e3⟩
  simp only [closureFor]
  rw [show (forIn (m := Sem) scope.names [] fun x r => if (x.2 == NameKind.free) = true then (do let c ← cellOf env x.1; pure (ForInStep.yield ((x.1, c) :: r))) else pure (ForInStep.yield r)) = pure cl from e1]
  rfl
theorem relabel_from {scope : Scope} {env : Env} {x : Str} (hc : ∀ y ∈ scope.names, y.2 ≠ NameKind.cell) (h : (relabel scope env).names.lookup x = some .cell ∨ (relabel scope env).names.lookup x = some .free) : ∃ y ∈ scope.names, y.1 = x ∧ y.2 = NameKind.free := by
  have e' : ∃ k, (k = NameKind.cell ∨ k = NameKind.free) ∧ (relabel scope env).names.lookup x = some k := by
    rcases h with e | e
    · exact ⟨_, .inl rfl, e⟩
    · exact ⟨_, .inr rfl, e⟩
  obtain ⟨k, hk, e⟩ := e'
  have hm := PySem.mem_of_lookup e
  obtain ⟨y, hy, hy2⟩ := List.mem_map.mp hm
  obtain ⟨n, kk⟩ := y
  have hn := hc _ hy
  simp only at hy2 hn
  split at hy2
  · rename_i hf
    injection hy2 with a1 a2
    subst a1
    simp only [Bool.and_eq_true] at hf
    exact ⟨(n, kk), hy, rfl, eq_of_beq hf.1.1⟩
  · injection hy2 with a1 a2
    subst a1 a2
    rcases hk with rfl | rfl
    · exact absurd rfl hn
    · exact ⟨_, hy, rfl, rfl⟩
theorem clOk_of {X : Cx} (ok : X.Ok) {scope : Scope} (hc : ∀ y ∈ scope.names, y.2 ≠ NameKind.cell) (h : ∀ y ∈ scope.names, y.2 = NameKind.free → X.env.kindOf y.1 = some .cell ∨ X.env.kindOf y.1 = some .free) : ∃ cl, ClOk X scope cl := by
  obtain ⟨cl, e1, e2, e3⟩ := closure_ok (scope := scope) (env := X.env) fun y hy ey => ok.has y.1 (h y hy ey)
  refine ⟨cl, e1, e2, fun x hx => ?_⟩
  obtain ⟨y, hy, rfl, ey⟩ := relabel_from hc hx
  exact e3 y hy ey
theorem pe_compC {X : Cx} {elt tg iter : Expr} {ifs : List Expr} {scope : Scope} {pos : Pos} {N' : List Str} {wi : TI} {g : TG} {tt : TT} {te : TE} (σf : St → St)
    (hc : X.calm = true) (hkind : scope.kind = .function) (hcell : ∀ y ∈ scope.names, y.2 ≠ .cell) (hnames : ∀ y ∈ scope.names, y.2 = .local → scope.names.lookup y.1 = some .local)
    (hk : ∀ y ∈ scope.names, y.2 = NameKind.free → X.env.kindOf y.1 = some .cell ∨ X.env.kindOf y.1 = some .free)
    (hN : ∀ cl (σ : St), σ.length = X.N.length → BlkN X N' scope cl σ (σf σ)) (hi : PI X tg iter wi)
    (hg : ∀ cl C s₀ H₀ ex pn, PG (blk X N' scope cl C s₀ H₀ ex pn) tg g) (ht : ∀ cl C s₀ H₀ ex pn, PIfs (blk X N' scope cl C s₀ H₀ ex pn) ifs tt) (he : ∀ cl C s₀ H₀ ex pn, PE (blk X N' scope cl C s₀ H₀ ex pn) elt te)
    (hs : ∀ x, foldedSetIterable iter X.env x = pure x := by intro _; rfl) : PE X (.ListComp elt [⟨tg, iter, ifs, 0⟩] scope pos) (tComp σf wi g tt te) := by
  intro pins s σ H Q I h
  obtain ⟨cl, hcl⟩ := clOk_of I.ok hcell hk
  exact pe_comp σf hc hkind hcell hnames hcl (hN cl) hi (hg cl) (ht cl) (he cl) hs pins s σ H Q I h
/-- the names that are taken over: free in the block, cells of the frame -/
theorem hk_of {X : Cx} {scope sc : Scope} (hs : X.env.scope = sc) (h : (scope.names.all fun y => y.2 != NameKind.free || sc.names.lookup y.1 == some NameKind.cell || sc.names.lookup y.1 == some NameKind.free) = true) :
    ∀ y ∈ scope.names, y.2 = NameKind.free → X.env.kindOf y.1 = some .cell ∨ X.env.kindOf y.1 = some .free := fun y hy ey => by
  have q := List.all_eq_true.mp h y hy
  unfold Env.kindOf
  rw [hs]
  rw [ey] at q
  simp only [bne_self_eq_false, Bool.false_or, Bool.or_eq_true] at q
  rcases q with q | q
  · exact .inl (eq_of_beq q)
  · exact .inr (eq_of_beq q)
theorem lookup_relabel_free {env : Env} {x : Str} (hk : env.scope.kind = .function) (hx : env.kindOf x = some .cell) : ∀ {names : List (Str × NameKind)}, names.lookup x = some .free →
    (names.map fun (n, k) => if (k == NameKind.free && env.scope.kind == .function && env.kindOf n == some .cell) then (n, NameKind.cell) else (n, k)).lookup x = some .cell
  | [], h => by simp at h
  | (n, k) :: r, h => by
    rw [List.map_cons]
    rw [List.lookup_cons] at h
    by_cases e : (x == n) = true
    · rw [e] at h
      have e' : x = n := eq_of_beq e
      subst e'
      have hf : k = NameKind.free := Option.some.inj h
      subst hf
      have c : (NameKind.free == NameKind.free && env.scope.kind == .function && env.kindOf x == some .cell) = true := by rw [hk, hx]; rfl
      rw [show (match ((x, NameKind.free) : Str × NameKind) with | (n, k) => if (k == NameKind.free && env.scope.kind == .function && env.kindOf n == some .cell) = true then (n, NameKind.cell) else (n, k)) = (x, NameKind.cell) from if_pos c]
      rw [List.lookup_cons, beq_self_eq_true]
    · have e0 : (x == n) = false := by simpa using e
      rw [e0] at h
      have ih := lookup_relabel_free hk hx h
      have en : ∀ q : Str × NameKind, q.1 = n → (q :: (r.map fun (n, k) => if (k == NameKind.free && env.scope.kind == .function && env.kindOf n == some .cell) then (n, NameKind.cell) else (n, k))).lookup x = some .cell := fun q hq => by
        obtain ⟨q1, q2⟩ := q
        simp only at hq
        subst hq
        rw [List.lookup_cons, e0]
        exact ih
      refine en _ ?_
      show (if _ then (n, NameKind.cell) else (n, k)).1 = n
      split <;> rfl
theorem blkN_by {X : Cx} {N' N : List Str} {scope sc : Scope} {cl : List (Str × Addr)} {σ : St} (ts : List (Option Nat)) (hN : X.N = N) (hsc : X.env.scope = sc) (hl : ts.length = N'.length) (hk : sc.kind = .function)
    (h : ((ts.zip N').all fun p => match p.1 with | none => true | some j => N[j]? == some p.2 && sc.names.lookup p.2 == some NameKind.cell && scope.names.lookup p.2 == some NameKind.free) = true) :
    BlkN X N' scope cl σ (ts.map fun t => t.bind fun j => (σ[j]?).join) := by
  refine ⟨by rw [List.length_map, hl], fun i x v h1 h2 => ?_⟩
  rw [List.getElem?_map] at h2
  cases ht : ts[i]? with
  | none => rw [ht] at h2; cases h2
  | some t =>
    rw [ht] at h2
    have h2' : (t.bind fun j => (σ[j]?).join) = some v := Option.some.inj h2
    cases t with
    | none => cases h2'
    | some j =>
      have hm : (some j, x) ∈ ts.zip N' := List.mem_of_getElem? (by rw [List.getElem?_zip_eq_some]; exact ⟨ht, h1⟩ : (ts.zip N')[i]? = some (some j, x))
      have q := List.all_eq_true.mp h _ hm
      simp only [Bool.and_eq_true] at q
      obtain ⟨⟨q1, q2⟩, q3⟩ := q
      have q1' := eq_of_beq q1
      have q2' := eq_of_beq q2
      have q3' := eq_of_beq q3
      have kd : X.env.kindOf x = some .cell := by
        unfold Env.kindOf
        rw [hsc]
        exact q2'
      refine ⟨j, by rw [hN]; exact q1', ?_, by rw [hsc]; exact .inr (.inl q2'), (by rw [kd]; decide), .inl (lookup_relabel_free (by rw [hsc]; exact hk) kd q3')⟩
      have h3 : (σ[j]?).join = some v := h2'
      cases hj : σ[j]? with
      | none => rw [hj] at h3; cases h3
      | some o => rw [hj] at h3; cases o with
        | none => cases h3
        | some u => cases h3; rfl
end L2

namespace L2
open PySem PySem.Spec PyProof.Rows

/-! ### lists of pairs as tables -/
section
variable {κ : Type} [DecidableEq κ]
def valV (kvs : List (κ × V)) (k : κ) : Option V := (kvs.find? fun kv => decide (kv.1 = k)).map (·.2)
/-- in its place, or at the end -/
def putK (kvs : List (κ × V)) (k : κ) (v : V) : List (κ × V) :=
  if (kvs.any fun kv => decide (kv.1 = k)) = true then kvs.map (fun kv => if kv.1 = k then (kv.1, v) else kv) else kvs ++ [(k, v)]
def dropK (kvs : List (κ × V)) (k : κ) : List (κ × V) := kvs.filter fun kv => decide (kv.1 ≠ k)

theorem valV_pos {p : κ × V} {r : List (κ × V)} {k : κ} (e : p.1 = k) : valV (p :: r) k = some p.2 := by simp [valV, List.find?_cons, e]
theorem valV_neg {p : κ × V} {r : List (κ × V)} {k : κ} (e : ¬ p.1 = k) : valV (p :: r) k = valV r k := by simp [valV, List.find?_cons, e]
theorem valV_any (k : κ) : ∀ kvs : List (κ × V), (kvs.any fun kv => decide (kv.1 = k)) = (valV kvs k).isSome
  | [] => rfl
  | p :: r => by
    rw [List.any_cons]
    by_cases e : p.1 = k
    · simp only [valV_pos e, decide_eq_true e, Bool.true_or, Option.isSome_some]
    · rw [valV_neg e, decide_eq_false e, Bool.false_or]; exact valV_any k r
theorem length_putK (kvs : List (κ × V)) (k : κ) (v : V) : (putK kvs k v).length ≤ kvs.length + 1 := by
  unfold putK
  split
  · rw [List.length_map]; omega
  · rw [List.length_append, List.length_cons, List.length_nil]; omega
theorem RelO.isSome_eq {o : Option V} {u : Option Value} (r : RelO o u) : o.isSome = u.isSome := by
  cases o with
  | none => cases u with
    | none => rfl
    | some _ => exact (show False from r).elim
  | some _ => cases u with
    | none => exact (show False from r).elim
    | some _ => rfl
/-- raw tables of the same keys -/
theorem KV.val {kvs : List (κ × V)} {vs : List (κ × Value)} (r : KV kvs vs) (k : κ) : RelO (valV kvs k) (valueAt vs k) := by
  unfold KV at r
  induction r with
  | nil => exact True.intro
  | @cons p q ps qs h t ih =>
    obtain ⟨h1, h2⟩ := h
    by_cases e : p.1 = k
    · have e' : q.1 = k := h1.symm.trans e
      have b : valueAt (q :: qs) k = some q.2 := by simp [valueAt, List.find?_cons, e']
      rw [valV_pos e, b]; exact h2
    · have e' : ¬ q.1 = k := fun z => e (h1.trans z)
      have b : valueAt (q :: qs) k = valueAt qs k := by simp [valueAt, List.find?_cons, e']
      rw [valV_neg e, b]; exact ih
theorem KV.any {kvs : List (κ × V)} {vs : List (κ × Value)} (r : KV kvs vs) (k : κ) : (kvs.any fun kv => decide (kv.1 = k)) = vs.any fun kv => decide (kv.1 = k) := by
  unfold KV at r
  induction r with
  | nil => rfl
  | cons h t ih => rw [List.any_cons, List.any_cons, ih, h.1]
theorem KV.repl {kvs : List (κ × V)} {vs : List (κ × Value)} (r : KV kvs vs) (k : κ) {y : V} {u : Value} (ry : RelV y u) :
    KV (kvs.map fun kv => if kv.1 = k then (kv.1, y) else kv) (vs.map fun kv => if kv.1 = k then (kv.1, u) else kv) := by
  unfold KV at r ⊢
  induction r with
  | nil => exact .nil
  | @cons p q ps qs h t ih =>
    rw [List.map_cons, List.map_cons]
    refine .cons ?_ ih
    obtain ⟨h1, h2⟩ := h
    by_cases e : p.1 = k
    · rw [if_pos e, if_pos (h1.symm.trans e)]; exact ⟨h1, ry⟩
    · rw [if_neg e, if_neg (fun z => e (h1.trans z))]; exact ⟨h1, h2⟩
theorem KV.put {kvs : List (κ × V)} {vs : List (κ × Value)} (r : KV kvs vs) (k : κ) {y : V} {u : Value} (ry : RelV y u) : KV (putK kvs k y) (stored vs k u) := by
  unfold putK stored
  rw [r.any k]
  by_cases e : (vs.any fun kv => decide (kv.1 = k)) = true
  · rw [if_pos e, if_pos e]; exact r.repl k ry
  · rw [if_neg e, if_neg e]; exact Paired.snoc r ⟨rfl, ry⟩
theorem KV.keys {kvs : List (κ × V)} {vs : List (κ × Value)} (r : KV kvs vs) : kvs.map (·.1) = vs.map (·.1) := by
  unfold KV at r
  induction r with
  | nil => rfl
  | cons h t ih => rw [List.map_cons, List.map_cons, ih, h.1]
theorem KV.length {kvs : List (κ × V)} {vs : List (κ × Value)} (r : KV kvs vs) : kvs.length = vs.length := Paired.length r
end


/-! ### a tracked dict, its keys ints and texts or tuples of these -/
theorem kV_is {P : Program} {w : World} {k : Key} {u : Value} (r : RelV (kV k) u) : (mixKind P w).is k u = true := by
  cases k with
  | inl i => obtain ⟨t, e⟩ := (show ∃ t, u = Value.int i t from r); subst e; exact mixKind_int P w i t
  | inr x => obtain ⟨t, e⟩ := (show ∃ t, u = Value.str x t from r); subst e; exact mixKind_str P w x t
theorem items_are {P : Program} {w : World} : ∀ {ks : List Key} {us : List Value}, Vals (ks.map kV) us → ItemsAre (mixKind P w) ks us
  | [], _, r => by rw [List.map_nil] at r; cases r; exact .nil
  | k :: ks, _, r => by
    rw [List.map_cons] at r
    cases r with
    | cons h t => exact .cons (kV_is h) (items_are t)

/-- raw entries of a dict with tuple keys -/
abbrev KT (H : Hp) : List (List Key × V) → List (List Key × Addr × Value) → Prop := Paired fun p q => p.1 = q.1 ∧ H q.2.1 = some (.tup (p.1.map kV)) ∧ RelV p.2 q.2.2
theorem KT.val {H : Hp} {kvs : List (List Key × V)} {xs : List (List Key × Addr × Value)} (r : KT H kvs xs) (k : List Key) : RelO (valV kvs k) ((atKey xs k).map (·.2)) := by
  induction r with
  | nil => exact True.intro
  | @cons p q ps qs h t ih =>
    obtain ⟨h1, _, h2⟩ := h
    by_cases e : p.1 = k
    · have e' : q.1 = k := h1.symm.trans e
      have b : atKey (q :: qs) k = some q.2 := by simp [atKey, List.find?_cons, e']
      rw [valV_pos e, b]; exact h2
    · have e' : ¬ q.1 = k := fun z => e (h1.trans z)
      have b : atKey (q :: qs) k = atKey qs k := by simp [atKey, List.find?_cons, e']
      rw [valV_neg e, b]; exact ih
theorem KT.repl {H : Hp} {kvs : List (List Key × V)} {xs : List (List Key × Addr × Value)} (r : KT H kvs xs) (k : List Key) {y : V} {u : Value} (ry : RelV y u) :
    KT H (kvs.map fun kv => if kv.1 = k then (kv.1, y) else kv) (xs.map (putAt k u)) := by
  induction r with
  | nil => exact .nil
  | @cons p q ps qs h t ih =>
    rw [List.map_cons, List.map_cons]
    refine .cons ?_ ih
    obtain ⟨h1, h2, h3⟩ := h
    unfold putAt
    by_cases e : p.1 = k
    · rw [if_pos e, if_pos (h1.symm.trans e)]; exact ⟨h1, h2, ry⟩
    · rw [if_neg e, if_neg (fun z => e (h1.trans z))]; exact ⟨h1, h2, h3⟩
theorem KT.put {H : Hp} {kvs : List (List Key × V)} {xs : List (List Key × Addr × Value)} (r : KT H kvs xs) (k : List Key) {b : Addr} {y : V} {u : Value} (hb : H b = some (.tup (k.map kV))) (ry : RelV y u) :
    KT H (putK kvs k y) (storedH xs k b u) := by
  have e : (kvs.any fun kv => decide (kv.1 = k)) = (atKey xs k).isSome := by
    rw [valV_any, (r.val k).isSome_eq, Option.isSome_map]
  unfold putK storedH
  rw [e]
  by_cases q : (atKey xs k).isSome = true
  · rw [if_pos q, if_pos q]; exact r.repl k ry
  · rw [if_neg q, if_neg q]; exact Paired.snoc r ⟨rfl, hb, ry⟩
theorem KT.keeps {H H' : Hp} {kvs : List (List Key × V)} {xs : List (List Key × Addr × Value)} (r : KT H kvs xs) (ht : ∀ b ys, H b = some (.tup ys) → H' b = some (.tup ys)) : KT H' kvs xs :=
  Paired.mapP r fun _ _ z => ⟨z.1, ht _ _ z.2.1, z.2.2⟩

section
variable {P : Program} {w : World} {H : Hp} {h : Heap} {a : Addr}
theorem rd_of {u : HO} (ok : HOk P w H h) (e : Rd H a u) : ObjOk P w H h a u := e.ok ok
theorem dk_rd {kvs : List (Key × V)} (ok : HOk P w H h) (e : Rd H a (.dK kvs)) : kvs.length ≤ sizeLine ∧ (a == sysModules) = false ∧ ∃ vs, KV kvs vs ∧ h.DictOf (mixKind P w) a vs :=
  show ObjOk P w H h a (.dK kvs) from rd_of ok e
theorem dk_of {kvs : List (Key × V)} (ok : HOk P w H h) (e : H a = some (.dK kvs)) : kvs.length ≤ sizeLine ∧ (a == sysModules) = false ∧ ∃ vs, KV kvs vs ∧ h.DictOf (mixKind P w) a vs := dk_rd ok (.inl e)
/-- a tracked tuple of ints and texts is a key -/
theorem key_of {ks : List Key} (ok : HOk P w H h) (e : H a = some (.tup (ks.map kV))) : (tupleKind (mixKind P w)).is h ks a := by
  obtain ⟨_, its, r, o, h1, h2, n, h3⟩ := (show ObjOk P w H h a (.tup (ks.map kV)) from ok a _ e)
  exact ⟨o, its.toArray, n, h1, h2, h3, by simpa using items_are r⟩
theorem dt_rd {kvs : List (List Key × V)} (ok : HOk P w H h) (e : Rd H a (.dT kvs)) : kvs.length ≤ sizeLine ∧ (a == sysModules) = false ∧
    ∃ xs, KT H kvs xs ∧ h.DictOfH (tupleKind (mixKind P w)) a xs := by
  obtain ⟨z, y, xs, r, o, es, ep, h1, h2, h3, h4, h5⟩ := (show ObjOk P w H h a (.dT kvs) from rd_of ok e)
  refine ⟨z, y, xs, r, o, es, ep, h1, h2, h3, h4, fun x hx => ?_, h5⟩
  have all : ∀ {l : List (List Key × V)} {m : List (List Key × Addr × Value)}, KT H l m → ∀ x ∈ m, (tupleKind (mixKind P w)).is h x.1 x.2.1 := by
    intro l m q
    induction q with
    | nil => intro x hx; exact nomatch hx
    | @cons p q ps qs hq t ih =>
      intro x hx
      rcases List.mem_cons.mp hx with e | hx
      · subst e
        exact key_of ok (by rw [← hq.1]; exact hq.2.1)
      · exact ih x hx
  exact all r x hx
theorem dt_of {kvs : List (List Key × V)} (ok : HOk P w H h) (e : H a = some (.dT kvs)) : kvs.length ≤ sizeLine ∧ (a == sysModules) = false ∧
    ∃ xs, KT H kvs xs ∧ h.DictOfH (tupleKind (mixKind P w)) a xs := dt_rd ok (.inl e)
end

/-- what the dict at a holds at the key y -/
def DGet (H : Hp) (a : Addr) (y : V) (r : Option V) : Prop :=
  (∃ kvs k, Rd H a (.dK kvs) ∧ y = kV k ∧ r = valV kvs k) ∨ ∃ kvs k b, Rd H a (.dT kvs) ∧ y = .ref b ∧ H b = some (.tup (k.map kV)) ∧ r = valV kvs k
/-- the heap behind a[y] = v -/
def DPut (H : Hp) (a : Addr) (y v : V) (H' : Hp) : Prop :=
  (∃ kvs k, H a = some (.dK kvs) ∧ y = kV k ∧ kvs.length < sizeLine ∧ H' = upd H a (.dK (putK kvs k v))) ∨
  ∃ kvs k b, H a = some (.dT kvs) ∧ y = .ref b ∧ H b = some (.tup (k.map kV)) ∧ kvs.length < sizeLine ∧ H' = upd H a (.dT (putK kvs k v))
theorem DPut.k {H : Hp} {a : Addr} {kvs : List (Key × V)} {k : Key} {v : V} (e : H a = some (.dK kvs)) (hl : kvs.length < sizeLine) : DPut H a (kV k) v (upd H a (.dK (putK kvs k v))) := .inl ⟨kvs, k, e, rfl, hl, rfl⟩
section
variable {X : Cx} {pins : List (Addr × Obj)} {σ : St} {H : Hp} {s : Shared} {a : Addr} {y v : V} {u r : Value} {o : Option V} {A : Around} {E : Value → Shared → Prop}

theorem Inv.big (I : Inv X pins σ H s) : sysModules < s.heap.objs.size := by
  have h : mainGlobals < s.heap.objs.size := (I.mod.glob.keeps I.bk).lt
  exact Nat.lt_trans (by decide) h

theorem d_notIn {Q : Value → Shared → Prop} (hu : A.units + 1 < cLine) (I : Inv X pins σ H s) (g : DGet H a y o) (ry : RelV y u) (h : ∀ s', Inv X pins σ H s' → Q (.bool (!o.isSome)) s') :
    wpAny (model X.prog X.w) A (compareOp .NotIn u (.ref a)) Q E s := by
  rcases g with ⟨kvs, k, e, ey, l⟩ | ⟨kvs, k, b, e, ey, eb, l⟩
  · subst ey
    obtain ⟨z, hd, vs, rel, dd⟩ := dk_rd I.hok e
    refine wpAny_notIn_of (kV_is ry) hd dd.mapOf ?_
    rw [← (rel.val k).isSome_eq, ← l]
    exact h _ (I.tok _)
  · subst ey
    cases (show u = Value.ref b from ry)
    obtain ⟨z, hd, xs, rel, dd⟩ := dt_rd I.hok e
    refine wpAny_notIn_heap (tupleKind_room_in1 hu) (key_of I.hok eb) hd dd ?_
    have q := (rel.val k).isSome_eq
    rw [Option.isSome_map] at q
    rw [← q, ← l]
    exact h _ (I.tok _)
/-- a dict's object is replaced -/
theorem d_write {h' : Heap} {t' : Nat} {ob : HO} (I : Inv X pins σ H s) (mu : Mut (H a)) (hs : Heap.SameBut a s.heap h') (he : ∃ q, h'.get? a = some q) (new : ObjOk X.prog X.w (upd H a ob) h' a ob) :
    Inv X pins σ (upd H a ob) { s with heap := h', toks := t' } :=
  I.write (x := a) (e := a) mu (.inl rfl) (fun b q hb z => (hs.2 b hb).trans z) he new
theorem dk_new {P : Program} {w : World} {H' : Hp} {h' : Heap} {kvs : List (Key × V)} {vs : List (Key × Value)} (z : kvs.length ≤ sizeLine) (hd : (a == sysModules) = false) (rel : KV kvs vs) (dd : h'.DictOf (mixKind P w) a vs) :
    ObjOk P w H' h' a (.dK kvs) := ⟨z, hd, vs, rel, dd⟩
/-- d[y] = v -/
theorem d_setItem {H' : Hp} {Q : Unit → Shared → Prop} (hu : A.units + 1 < cLine) (I : Inv X pins σ H s) (g : DPut H a y v H') (ry : RelV y u) (rv : RelV v r) (h : ∀ s', Inv X pins σ H' s' → Q () s') :
    wpAny (model X.prog X.w) A (setItem (.ref a) u r) Q E s := by
  rcases g with ⟨kvs, k, e, ey, l, eH⟩ | ⟨kvs, k, b, e, ey, eb, l, eH⟩
  · subst ey eH
    obtain ⟨z, hd, vs, rel, dd⟩ := dk_of I.hok e
    have hz : vs.length ≤ sizeLine := by rw [← rel.length]; exact z
    have hl : (putK kvs k v).length ≤ sizeLine := by have := length_putK kvs k v; omega
    refine wpAny_setItem_pairs (hsz := hz) (kV_is ry) dd fun h' dd' hs => h _ ?_
    have he : ∃ q, h'.get? a = some q := let ⟨q, _, _, hq, _⟩ := dd'; ⟨q, hq⟩
    exact d_write I (by rw [e]; exact True.intro) hs he (dk_new hl hd (rel.put k rv) dd')
  · subst ey eH
    cases (show u = Value.ref b from ry)
    obtain ⟨z, hd, xs, rel, dd⟩ := dt_of I.hok e
    have hz : xs.length ≤ sizeLine := by rw [← Paired.length rel]; exact z
    have hl : (putK kvs k v).length ≤ sizeLine := by have := length_putK kvs k v; omega
    refine wpAny_setItem_heap (hsz := hz) (tupleKind_room_in1 hu) (key_of I.hok eb) dd fun h' dd' hs => h _ ?_
    obtain ⟨q, es, ep, hq, h2, h3, h4, _, h5⟩ := dd'
    refine d_write I (by rw [e]; exact True.intro) hs ⟨q, hq⟩ ⟨hl, hd, _, (rel.put k eb rv).keeps fun c ys ec => ?_, q, es, ep, hq, h2, h3, h4, h5⟩
    rw [upd_ne (ne_of ec e (fun z => nomatch z))]
    exact ec
end

section
variable {X : Cx} {pins : List (Addr × Obj)} {σ : St} {H : Hp} {s : Shared} {a : Addr} {kvs : List (Key × V)} {k : Key} {u : Value} {A : Around} {E : Value → Shared → Prop}
end


/-! ### readings and rules -/
/-- the element of a subscription, not a slice -/
def NoSl (i : Expr) : Prop := ∀ ov iv, subscripted i false ov iv = operate [ov, iv] (getItem ov iv)
/-- d[y] -/
def tDGet (td ty : TE) : TE := fun σ H Q => td σ H fun x H1 => ty σ H1 fun y H2 => ∃ a v, x = .ref a ∧ DGet H2 a y (some v) ∧ Q v H2
/-- y in d, y not in d -/
def tDIn (ty td : TE) : TE := fun σ H Q => ty σ H fun y H1 => td σ H1 fun x H2 => ∃ a o, x = .ref a ∧ DGet H2 a y o ∧ Q (.bl o.isSome) H2
def tDNotIn (ty td : TE) : TE := fun σ H Q => ty σ H fun y H1 => td σ H1 fun x H2 => ∃ a o, x = .ref a ∧ DGet H2 a y o ∧ Q (.bl (!o.isSome)) H2
/-- d[y] = v -/
def sDPut (td ty tv : TE) : TS := fun D σ H => tv σ H fun v H1 => td σ H1 fun x H2 => ty σ H2 fun y H3 => ∃ a H4, x = .ref a ∧ DPut H3 a y v H4 ∧ D.nx σ H4
/-- d[y] op= v -/
def sDAug (td ty tv : TE) (rd : V → V → Hp → VK → Prop) : TS := fun D σ H => td σ H fun x H1 => ty σ H1 fun y H2 => ∃ a v, x = .ref a ∧ DGet H2 a y (some v) ∧
  tv σ H2 fun y2 H3 => rd v y2 H3 fun z H4 => ∃ H5, DPut H4 a y z H5 ∧ D.nx σ H5
/-- del d[y] -/
def sDDel (td ty : TE) : TS := fun D σ H => td σ H fun x H1 => ty σ H1 fun y H2 => ∃ a kvs k, x = .ref a ∧ H2 a = some (.dK kvs) ∧ y = kV k ∧ (valV kvs k).isSome = true ∧ D.nx σ (upd H2 a (.dK (dropK kvs k)))

section
variable {X : Cx} {o i e value : Expr} {pos pos' tpos : Pos} {td ty tv : TE}
theorem ps_dput (hu : X.A.units + 1 < cLine) (ho : PE X o td) (hi : PE X i ty) (hv : PE X value tv) (hs : swapsWith value (some (.Subscript o i pos')) pos.line X.env = pure false) :
    PS X (.Assign [.Subscript o i pos'] value pos) (sDPut td ty tv) := by
  intro pins s σ H D I h
  refine wpAny_Assign_Subscript (thn (hv pins s σ H _ I h) fun r s1 ⟨v, H1, I1, rv, q1⟩ => thn (ho pins s1 σ H1 _ I1 q1) fun u s2 ⟨x, H2, I2, rx, q2⟩ => thn (hi pins s2 σ H2 _ I2 q2) fun iv s3 ⟨y, H3, I3, ry, a, H4, ex, g, q3⟩ => ?_) hs
  subst ex
  obtain rfl : u = Value.ref a := rx
  exact d_setItem hu I3 g ry rv fun s4 I4 => ⟨σ, H4, I4, q3⟩
end


/-! ### displays -/
theorem dk_empty {P : Program} {w : World} {H : Hp} (h : Heap) (hb : sysModules < h.objs.size) : ObjOk P w H (h.push { cls := .type "dict", data := .dict #[] }) h.objs.size (.dK []) :=
  ⟨Nat.zero_le _, beq_eq_false_iff_ne.mpr (Ne.symm (Nat.ne_of_lt hb)), [], .nil, Heap.DictOf.new h⟩
/-- {}, to be a dict of the kind that is wanted -/
def tDNewK : TE := fun _ H Q => ∀ p, H p = none → Q (.ref p) (upd H p (.dK []))
def tDNewT : TE := fun _ H Q => ∀ p, H p = none → Q (.ref p) (upd H p (.dT []))
section
variable {X : Cx} {pos : Pos}
theorem pe_dnewK : PE X (.Dict [] [] pos) tDNewK := fun pins s σ H Q I h =>
  wpAny_Dict_empty ⟨.ref s.heap.objs.size, _, I.laid (a := s.heap.objs.size) (o := .dK []) (t' := s.toks) (fun _ _ q => Heap.get?_push_of_some _ q) (Nat.le_refl _) (dk_empty s.heap I.big), rfl, h _ (I.hok.fresh (Nat.le_refl _))⟩
end

/-- the pairs of a display, from the left -/
def tPairs : List (TE × TE) → St → Hp → (List (V × V) → Hp → Prop) → Prop
  | [], _, H, Q => Q [] H
  | (tk, tv) :: r, σ, H, Q => tk σ H fun x H1 => tv σ H1 fun y H2 => tPairs r σ H2 fun ps H3 => Q ((x, y) :: ps) H3
abbrev VV : List (V × V) → List (Value × Value) → Prop := Paired fun p q => RelV p.1 q.1 ∧ RelV p.2 q.2
def PPs (X : Cx) (pos : Pos) (keys : List (Option Expr)) (values : List Expr) (trs : List (TE × TE)) : Prop :=
  ∀ (pins : List (Addr × Obj)) (s : Shared) (σ : St) (H : Hp) (Q : List (V × V) → Hp → Prop), Inv X pins σ H s → tPairs trs σ H Q →
    wpAny (model X.prog X.w) X.A (evalPairs (pairTrees keys values X.env pos)) (fun vs s' => ∃ ps H', Inv X pins σ H' s' ∧ VV ps vs ∧ Q ps H') X.xe s
theorem pps_nil {X : Cx} {pos : Pos} : PPs X pos [] [] [] := fun pins s σ H Q I h => pairTrees_nil_walk ⟨[], H, I, .nil, h⟩
theorem pps_cons {X : Cx} {pos : Pos} {k v : Expr} {ks : List (Option Expr)} {vs : List Expr} {tk tv : TE} {trs : List (TE × TE)} (hk : PE X k tk) (hv : PE X v tv) (hr : PPs X pos ks vs trs) :
    PPs X pos (some k :: ks) (v :: vs) ((tk, tv) :: trs) := fun pins s σ H Q I h =>
  pairTrees_cons_walk (thn (hk pins s σ H _ I h) fun u s1 ⟨x, H1, I1, rx, q1⟩ => thn (hv pins s1 σ H1 _ I1 q1) fun w2 s2 ⟨y, H2, I2, ry, q2⟩ =>
    thn (hr pins s2 σ H2 _ I2 q2) fun ws s3 ⟨ps, H3, I3, rel, q3⟩ => ⟨(x, y) :: ps, H3, I3, .cons ⟨rx, ry⟩ rel, q3⟩)

def mergeK (kvs more : List (Key × V)) : List (Key × V) := more.foldl (fun acc kv => putK acc kv.1 kv.2) kvs
theorem KV.merge : ∀ {more : List (Key × V)} {rs : List (Key × Value)} {kvs : List (Key × V)} {vs : List (Key × Value)}, KV more rs → KV kvs vs → KV (mergeK kvs more) (merged vs rs) := by
  intro more rs kvs vs r
  unfold KV at r
  induction r generalizing kvs vs with
  | nil => intro q; exact q
  | @cons p q ps qs h t ih =>
    intro r0
    have e : KV (putK kvs p.1 p.2) (stored vs q.1 q.2) := by
      have := r0.put p.1 h.2
      rw [← h.1]; exact this
    exact ih e
theorem length_mergeK : ∀ (more kvs : List (Key × V)), (mergeK kvs more).length ≤ kvs.length + more.length
  | [], kvs => by show kvs.length ≤ kvs.length + 0; omega
  | p :: r, kvs => by
    have h1 := length_mergeK r (putK kvs p.1 p.2)
    have h2 := length_putK kvs p.1 p.2
    show (mergeK (putK kvs p.1 p.2) r).length ≤ _
    rw [List.length_cons]; omega
theorem carries_of {P : Program} {w : World} : ∀ {kvs : List (Key × V)} {ws : List (Value × Value)}, VV (kvs.map fun kv => (kV kv.1, kv.2)) ws → ∃ rs, Carries (mixKind P w) ws rs ∧ KV kvs rs
  | [], _, r => by rw [List.map_nil] at r; cases r; exact ⟨[], True.intro, .nil⟩
  | p :: kvs, _, r => by
    rw [List.map_cons] at r
    cases r with
    | @cons a b as bs h t =>
      obtain ⟨rs, c, q⟩ := carries_of (P := P) (w := w) t
      obtain ⟨b1, b2⟩ := b
      exact ⟨(p.1, b2) :: rs, ⟨kV_is h.1, rfl, c⟩, .cons ⟨rfl, h.2⟩ q⟩
/-- {k: v, ..} with keys ints and texts; the new dict stands empty while the pairs are made -/
def tDisp (trs : List (TE × TE)) : TE := fun σ H Q => ∀ p, H p = none → tPairs trs σ (upd H p (.dK [])) fun ps H2 => H2 p = some (.dK []) ∧ ∃ kvs : List (Key × V), ps = kvs.map (fun kv => (kV kv.1, kv.2)) ∧ kvs.length ≤ 15 ∧ Q (.ref p) (upd H2 p (.dK (mergeK [] kvs)))
theorem pe_disp {X : Cx} {pos : Pos} {keys : List (Option Expr)} {values : List Expr} {trs : List (TE × TE)} (h : PPs X pos keys values trs) (hall : keys.all (·.isSome) = true) (hl : keys.length = values.length) (h0 : keys ≠ [])
    (h15 : keys.length ≤ 15) : PE X (.Dict keys values pos) (tDisp trs) := by
  intro pins s σ H Q I q
  have hn := I.hok.fresh (Nat.le_refl s.heap.objs.size)
  have I1 := I.laid (a := s.heap.objs.size) (o := .dK []) (h' := s.heap.push { cls := .type "dict", data := .dict #[] }) (t' := s.toks) (fun _ _ q => Heap.get?_push_of_some _ q) (Nat.le_refl _) (dk_empty s.heap I.big)
  refine wpAny_Dict_walk (knd := mixKind X.prog X.w) hall hl h0 h15 (thn (h pins _ σ _ _ I1 (q _ hn)) fun ws s2 ⟨ps, H2, I2, rel, e, kvs, ep, lk, q2⟩ => ?_)
  subst ep
  obtain ⟨rs, c, rk⟩ := carries_of (P := X.prog) (w := X.w) rel
  obtain ⟨z, hd, vs0, r0, dd⟩ := dk_of I2.hok e
  cases r0
  refine ⟨rs, c, dd, fun h' dd' hs => ⟨.ref s.heap.objs.size, _, ?_, rfl, q2⟩⟩
  have hz : (mergeK [] kvs).length ≤ sizeLine := by
    have h1 := length_mergeK kvs []
    rw [List.length_nil] at h1
    rw [sizeLine_eq]; omega
  have he : ∃ q, h'.get? s.heap.objs.size = some q := let ⟨q, _, _, hq, _⟩ := dd'; ⟨q, hq⟩
  exact d_write I2 (by rw [e]; exact True.intro) hs he (dk_new hz hd (rk.merge .nil) dd')


/-! ### methods -/
/-- a method call o.m(e) of a built-in, with one argument: what must be seen of the text -/
structure M1 (X : Cx) (o : Expr) (m : Str) (apos : Pos) (e : Expr) (cpos : Pos) : Prop where
  base : attributeBase o m X.env (eval o X.env) = eval o X.env
  few : ((backTo cpos (starEach [e] X.env)).all (fun x => !x.1) && (backToKw cpos (keywordEach [] X.env)).all (fun x => x.1.isSome)
    && decide (([e] : List Expr).length + ([] : List Keyword).length + (if ([] : List Keyword).isEmpty then 0 else 1) < 30)) = true
  line : (apos.endLine == cpos.line) = true
  trees : backTo cpos (starEach [e] X.env) = [(false, eval e X.env)]
structure M2 (X : Cx) (o : Expr) (m : Str) (apos : Pos) (e f : Expr) (cpos : Pos) : Prop where
  base : attributeBase o m X.env (eval o X.env) = eval o X.env
  few : ((backTo cpos (starEach [e, f] X.env)).all (fun x => !x.1) && (backToKw cpos (keywordEach [] X.env)).all (fun x => x.1.isSome)
    && decide (([e, f] : List Expr).length + ([] : List Keyword).length + (if ([] : List Keyword).isEmpty then 0 else 1) < 30)) = true
  line : (apos.endLine == cpos.line) = true
  trees : backTo cpos (starEach [e, f] X.env) = [(false, eval e X.env), (false, eval f X.env)]

/-- a is a dict, whatever its keys -/
def IsD (H : Hp) (a : Addr) : Prop := (∃ kvs, Rd H a (.dK kvs)) ∨ ∃ kvs, Rd H a (.dT kvs)
section
variable {X : Cx} {pins : List (Addr × Obj)} {σ : St} {H : Hp} {s : Shared} {a : Addr} {y d : V} {u r : Value} {o : Option V} {A : Around} {E : Value → Shared → Prop}
end

def tDGet1 (td ty : TE) : TE := fun σ H Q => td σ H fun x H1 => ∃ a, x = .ref a ∧ IsD H1 a ∧ ty σ H1 fun y H2 => ∃ o, DGet H2 a y o ∧ Q (o.getD .non) H2
def tDGet2 (td ty tx : TE) : TE := fun σ H Q => td σ H fun x H1 => ∃ a, x = .ref a ∧ IsD H1 a ∧ ty σ H1 fun y H2 => tx σ H2 fun z H3 => ∃ o, DGet H3 a y o ∧ Q (o.getD z) H3
/-- d.pop(k): there; d.pop(k, x): there or not -/
def tDPop1 (td ty : TE) : TE := fun σ H Q => td σ H fun x H1 => ∃ a, x = .ref a ∧ IsD H1 a ∧ ty σ H1 fun y H2 => ∃ kvs k v, H2 a = some (.dK kvs) ∧ y = kV k ∧ valV kvs k = some v ∧ Q v (upd H2 a (.dK (dropK kvs k)))
def tDPop2 (td ty tx : TE) : TE := fun σ H Q => td σ H fun x H1 => ∃ a, x = .ref a ∧ IsD H1 a ∧ ty σ H1 fun y H2 => tx σ H2 fun z H3 => ∃ kvs k, H3 a = some (.dK kvs) ∧ y = kV k ∧
  (∀ v, valV kvs k = some v → Q v (upd H3 a (.dK (dropK kvs k)))) ∧ (valV kvs k = none → Q z H3)
section
variable {X : Cx} {o e f : Expr} {apos cpos : Pos} {td ty tx : TE}
end

/-! ### dict(d): a copy -/
section
variable {X : Cx} {pins : List (Addr × Obj)} {σ : St} {H : Hp} {s : Shared} {a : Addr} {kvs : List (Key × V)} {A : Around} {E : Value → Shared → Prop}
end


section
variable {X : Cx} {pins : List (Addr × Obj)} {σ : St} {H : Hp} {s : Shared} {a : Addr} {y : V} {u : Value} {A : Around} {E : Value → Shared → Prop}
end
end L2

namespace L2
open PySem PySem.Spec PyProof.Rows
/-! ### sorted -/
theorem vals_of_ints : ∀ {us : List Value} {ns : List Int}, IntsAre us ns → Vals (ns.map V.int) us
  | _, _, .nil => .nil
  | _, _, .cons _ _ h => .cons ⟨_, rfl⟩ (vals_of_ints h)
theorem lst_ok {P : Program} {w : World} {H : Hp} {h : Heap} {a : Addr} {xs : List V} {its : List Value} {e : Nat} (hv : Vals xs its) (hz : xs.length ≤ sizeLine) (ho : h.get? a = some (seqObj "list" its.toArray e)) : ObjOk P w H h a (.lst xs) := ⟨hz, its, e, hv, ho⟩
section
variable {X : Cx}
def rSortS (K : PySem.W.Frag) : List V → Hp → VK → Prop := fun xs H Q => ∃ a, ∃ ss : List Str, xs = [.ref a] ∧ SqL K H a (ss.map V.str) ∧ ss.length < 64 ∧ ∀ (p : Addr) (ss' : List Str), ss'.Perm ss → sortedS ss' = true → H p = none → Q (.ref p) (upd H p (.lst (ss'.map V.str)))
def rSortI (K : PySem.W.Frag) : List V → Hp → VK → Prop := fun xs H Q => ∃ a, ∃ ns : List Int, xs = [.ref a] ∧ SqL K H a (ns.map V.int) ∧ ns.length < 64 ∧ ∀ (p : Addr) (ns' : List Int), ns'.Perm ns → ns'.Pairwise (· ≤ ·) → H p = none → Q (.ref p) (upd H p (.lst (ns'.map V.int)))
theorem keys_ints {P : Program} {w : World} : ∀ {ns : List Int} {vs : List (Key × Value)} {acc : List Value}, vs.map (·.1) = ns.map Sum.inl → acc.length = vs.length → (∀ (j : Nat) (v : Value), acc[j]? = some v → ∃ k x, vs[j]? = some (k, x) ∧ (mixKind P w).is k v = true) → IntsAre acc ns
  | [], [], [], _, _, _ => .nil
  | [], _ :: _, _, e, _, _ => by simp at e
  | _ :: _, [], _, e, _, _ => by simp at e
  | [], [], _ :: _, _, l, _ => by simp at l
  | _ :: _, _ :: _, [], _, l, _ => by simp at l
  | x :: ss, (k, y) :: vs, v :: acc, e, l, h => by
    simp only [List.map_cons, List.cons.injEq] at e
    obtain ⟨e1, e2⟩ := e
    obtain ⟨k', x', h1, h2⟩ := h 0 v rfl
    simp at h1
    obtain ⟨rfl, rfl⟩ := h1
    subst e1
    obtain ⟨t, rfl⟩ := Value.isInt_shape (k := x) (v := v) h2
    exact .cons _ _ (keys_ints e2 (by simpa using l) fun j v hv => h (j + 1) v (by simpa using hv))
/-- sorted of a dict: its keys are collected, then sorted in their place -/
theorem sorted_dict {Q : Value → Shared → Prop} {A : Around} {E : Value → Shared → Prop} {pins : List (Addr × Obj)} {σ : St} {H : Hp} {s : Shared} {a : Addr} {kvs : List (Key × V)} (hh : A.handled = none) (I : Inv X pins σ H s) (hH : H a = some (.dK kvs))
    (h : ∀ (h' : Heap) (tk : Nat) (acc : List Value) (vs : List (Key × Value)), KV kvs vs → acc.length = vs.length → (∀ (j : Nat) (v : Value), acc[j]? = some v → ∃ k x, vs[j]? = some (k, x) ∧ (mixKind X.prog X.w).is k v = true) → (∀ b o, s.heap.get? b = some o → h'.get? b = some o) →
      wpAny (model X.prog X.w) A.in1 (call (.builtin "list.sort") [.ref h'.objs.size]) (fun _ s' => Q (.ref h'.objs.size) s') E { s with heap := h'.push (seqObj "list" acc.toArray 0), toks := tk }) :
    wpAny (model X.prog X.w) A (call (.builtin "sorted") [.ref a]) Q E s := by
  obtain ⟨z, lo, vs, rel, dd⟩ := dk_of I.hok hH
  obtain ⟨ep, hat⟩ := dd.dictAt
  have hlen := rel.length
  refine Calls.call_function_entry kind_sorted plain_sorted entry_sorted (args_sorted1 _) ?_
  unfold Builtin.«sorted»
  refine wpAny_bind (m := checkCount "sorted" 1 1 _) (wpAny_pure ?_)
  refine wpAny_bind (PySem.W.kdu_collect (A := A.in1) (PySem.W.kdl_dict (knd := mixKind X.prog X.w) (kvs := vs) (ep := ep) lo) hh hat (by rw [← hlen]; exact z) fun h' tk acc hk hacc => ?_)
  have hl : acc.toList.length = vs.length := by rw [Array.length_toList]; exact hacc.1
  refine wpAny_bind (wpAny_newList ?_ (by rw [hl, ← hlen]; exact z))
  have hg := h h' tk acc.toList vs rel hl (fun j v e => hacc.2 j v (by rw [← Array.getElem?_toList]; exact e)) hk
  refine wpAny_bind (wpAny_holding (wpAny_mono hg (fun _ s' x => ?_) fun _ _ e => e))
  exact wpAny_pure ⟨_, rfl, x⟩
def rSortDS : List V → Hp → VK → Prop := fun xs H Q => ∃ a kvs, ∃ ss : List Str, xs = [.ref a] ∧ H a = some (.dK kvs) ∧ kvs.map (·.1) = ss.map Sum.inr ∧ kvs.length < 64 ∧ ∀ (p : Addr) (ss' : List Str), ss'.Perm ss → sortedS ss' = true → H p = none → Q (.ref p) (upd H p (.lst (ss'.map V.str)))
def rSortDI : List V → Hp → VK → Prop := fun xs H Q => ∃ a kvs, ∃ ns : List Int, xs = [.ref a] ∧ H a = some (.dK kvs) ∧ kvs.map (·.1) = ns.map Sum.inl ∧ kvs.length < 64 ∧ ∀ (p : Addr) (ns' : List Int), ns'.Perm ns → ns'.Pairwise (· ≤ ·) → H p = none → Q (.ref p) (upd H p (.lst (ns'.map V.int)))
theorem call_sortDI (hc : X.calm = true) : CallR X (.builtin "sorted") rSortDI := by
  intro pins s σ H xs us Q I r h
  obtain ⟨a, kvs, ns, rfl, hH, hk, h64, q⟩ := h
  obtain ⟨u, rfl, rx⟩ := vals1 r
  cases rx
  refine sorted_dict (I.ok.hd hc) I hH fun h' tk acc vs rel hl hacc keep => ?_
  have hS := keys_ints (ns := ns) (by rw [← rel.keys]; exact hk) hl hacc
  have hlen := rel.length
  have hssl : ns.length = kvs.length := by
    have := congrArg List.length hk
    rw [List.length_map, List.length_map] at this
    exact this.symm
  have hoL : (h'.push (seqObj "list" acc.toArray 0)).get? h'.objs.size = some (seqObj "list" acc.toArray 0) := Heap.get?_push_size _ rfl
  refine wpAny_call_entry slot_list_sort ⟨_, hoL, rfl⟩ entry_list_sort (list_sort_tree hoL hS (by omega) fun out ns' a1 a2 a3 => ⟨_, rfl, ?_⟩) (args_list_sort _)
  obtain ⟨e, he⟩ : ∃ e, (sortedHeap (h'.push (seqObj "list" acc.toArray 0)) h'.objs.size acc out).get? h'.objs.size = some (seqObj "list" out e) := sortedHeap_at hoL
  have I1 := I.kept (t' := tk) keep
  refine ⟨.ref h'.objs.size, _, I1.laid (a := h'.objs.size) (o := .lst (ns'.map V.int)) (t' := tk) (fun b o hb' => ?_) (Nat.le_refl _) (lst_ok (its := out.toList) (e := e) (vals_of_ints a1) ?_ (by rw [Array.toArray_toList]; exact he)), rfl, q _ ns' a2 a3 (I1.hok.fresh (Nat.le_refl _))⟩
  · have lt := Heap.lt_size hb'
    rw [sortedHeap_old (Nat.ne_of_lt lt) (by rw [Heap.size_push]; exact Nat.lt_succ_of_lt lt)]
    exact Heap.get?_push_of_some _ hb'
  · rw [List.length_map, a2.length_eq]
    exact sz1000 (by omega)
end
end L2

namespace L2
open PySem PySem.Spec PyProof.Rows PySem.W
/-- None in a list of flat things and tuples -/
def rInN (K : PySem.W.Frag) : R2 := fun x y H Q => ∃ p xs, x = .non ∧ y = .ref p ∧ SqL K H p xs ∧ (∀ v ∈ xs, flatV v = true ∨ ∃ a ys, v = .ref a ∧ SqT K H a ys) ∧ Q (.bl (xs.any fun v => decide (v = .non))) H
def isNU : Value → Bool
  | .none => true
  | _ => false
section
variable {X : Cx}
/-- a tuple in a tuple of tuples -/
def rInD (K : PySem.W.Frag) : R2 := fun x y H Q => ∃ a p us, ∃ e : Addr → Bool, x = .ref a ∧ y = .ref p ∧ SqT K H p us ∧ (∀ u ∈ us, ∃ b, u = .ref b ∧ DEq K H 40 u x (e b)) ∧ ∃ t : Bool, (us.any fun u => match u with | .ref b => e b | _ => false) = t ∧ Q (.bl t) H
def isDU (e : Addr → Bool) : Value → Bool
  | .ref b => e b
  | _ => false
/-- == of two lists, its answer told beside -/
def rEqLt (K : PySem.W.Frag) : R2 := fun x y H Q => ∃ a b xs ys, ∃ e : Nat → Bool, ∃ t : Bool, x = .ref a ∧ y = .ref b ∧ SqL K H a xs ∧ SqL K H b ys ∧ (∀ (j : Nat) x y, xs[j]? = some x → ys[j]? = some y → DEq K H 40 x y (e j)) ∧
  ((List.range (min xs.length ys.length)).all e && xs.length == ys.length) = t ∧ Q (.bl t) H
end
end L2

namespace L2
open PySem PySem.Spec PyProof.Rows
/-! ### name = [ .. for .. ]: the name is stored ahead of the block's end -/
theorem ps_comp {X : Cx} {iy : Nat} {y : Str} {py spos : Pos} {elt tg iter : Expr} {ifs : List Expr} {scope : Scope} {pos : Pos} {N' : List Str} {cl : List (Str × Addr)} {wi : TI} {g : TG} {tt : TT} {te : TE} (σf : St → St)
    (hc : X.calm = true) (hkind : scope.kind = .function) (hcell : ∀ y ∈ scope.names, y.2 ≠ .cell) (hnames : ∀ y ∈ scope.names, y.2 = .local → scope.names.lookup y.1 = some .local) (hcl : ClOk X scope cl)
    (hN : ∀ σ : St, σ.length = X.N.length → BlkN X N' scope cl σ (σf σ)) (hi : PI X tg iter wi)
    (hg : ∀ C s₀ H₀ ex pn, PG (blk X N' scope cl C s₀ H₀ ex pn) tg g) (ht : ∀ C s₀ H₀ ex pn, PIfs (blk X N' scope cl C s₀ H₀ ex pn) ifs tt) (he : ∀ C s₀ H₀ ex pn, PE (blk X N' scope cl C s₀ H₀ ex pn) elt te)
    (hnd : X.N.Nodup) (hiy : X.N[iy]? = some y) (hy : Loc X.env.scope y) (hfy : X.fn y = true ∨ X.env.scope.names.lookup y = some .local)
    (hsw : swapsWith (.ListComp elt [⟨tg, iter, ifs, 0⟩] scope pos) (some (.Name y py)) spos.line X.env = pure true)
    (hs : ∀ x, foldedSetIterable iter X.env x = pure x := by intro _; rfl) : PS X (.Assign [.Name y py] (.ListComp elt [⟨tg, iter, ifs, 0⟩] scope pos) spos) (tAsg (tComp σf wi g tt te) (gName iy)) := by
  intro pins s σ H Dn I h
  rw [exec_Assign_Name_used _ _ _ _ hsw]
  refine wpAny_bind (wpAny_standAt (wpAny_bind ?_))
  show wpAny _ X.A (do let _ ← comprehension (.ListComp elt [⟨tg, iter, ifs, 0⟩] scope pos) scope X.env _ (newList []) false (eval iter X.env) (some (assign (.Name y py) X.env))) _ _ s
  refine wpAny_bind (wpAny_mono (wpAny_comprehension_free (use := some (assign (.Name y py) X.env)) (Q := fun _ s' => SP X pins Dn .next s') rfl hs hcl.run hkind hnames
    (thn (hi pins s σ H _ I h) fun v s1 h1 => thn h1 fun itv s2 h2 => ?_)) (fun _ s' hq => wpAny_pure (wpAny_pure hq)) fun _ _ e => e)
  obtain ⟨it, fp, tn, J, H2, rfl, I2, T, st2, f2, q⟩ := h2
  refine wpAny_newObj_type (wpAny_newFunctionEnv hcell (by intro y hy; simp at hy) (fun h₁ hns₁ hsb₁ => ?_) hkind)
  dsimp only at hns₁ hsb₁ ⊢
  have hfo : ∀ b ∈ fp, b < s2.heap.objs.size := fun b hb => by
    obtain ⟨o, e, _⟩ := T.obj _ _ st2 b hb
    exact Heap.lt_size e
  have hDf : H2 s2.heap.objs.size = none := I2.hok.fresh (Nat.le_refl _)
  obtain ⟨W, ⟨m0, w0⟩, turn⟩ := q s2.heap.objs.size hDf
  have I3 : Inv X pins σ (upd H2 s2.heap.objs.size (.lst [])) { s2 with heap := s2.heap.push { cls := .type "list", data := .seq ([] : List Value).toArray } } := I2.lnew (its := []) (t' := s2.toks) .nil (Nat.zero_le _)
  have f3 : ∀ b ∈ fp, FpOk X pins (upd H2 s2.heap.objs.size (.lst [])) b := fun b hb => ⟨by rw [upd_ne (Nat.ne_of_lt (hfo b hb))]; exact (f2 b hb).1, (f2 b hb).2⟩
  generalize hD : s2.heap.objs.size = D at *
  generalize hs3 : ({ s2 with heap := s2.heap.push { cls := .type "list", data := .seq ([] : List Value).toArray } } : Shared) = s3 at *
  have hh3 : s3.heap = s2.heap.push { cls := .type "list", data := .seq ([] : List Value).toArray } := by rw [← hs3]
  have hsz3 : s2.heap.objs.size < s3.heap.objs.size := by rw [hh3, Heap.size_push]; exact Nat.lt_succ_self _
  have e3 : ∀ h t, ({ s2 with heap := h, toks := t } : Shared) = { s3 with heap := h, toks := t } := fun h t => by rw [← hs3]
  rw [← hh3] at hns₁ hsb₁ ⊢
  have hk3 : ∀ b o, s3.heap.get? b = some o → h₁.get? b = some o := fun b o e => hsb₁.extBut b o (Nat.ne_of_lt (Heap.lt_size e)) (Heap.get?_push_of_some _ e)
  have I4 := blk_start (t' := s3.toks) I3 hkind hcl (hN σ I.len) f3 (fun b hb => Nat.lt_trans (hfo b hb) (hD ▸ hsz3)) (hns := by simpa using hns₁) hk3
  generalize hB : blk X N' scope cl s3.heap.objs.size s3 (upd H2 D (.lst [])) fp (X.pn ++ pins) = B at *
  have hBp : B.prog = X.prog := by rw [← hB]; rfl
  have hBw : B.w = X.w := by rw [← hB]; rfl
  have hBK : B.K = X.K := by rw [← hB]; rfl
  have hBA : B.A = X.A := by rw [← hB]; rfl
  have hBc : B.calm = true := by rw [← hB]; exact hc
  have hBe : B.env = compEnvC scope cl s3.heap.objs.size X.env := by rw [← hB]; rfl
  have hBx : B.xe = fun _ _ => False := by rw [← hB]; rfl
  have hGB : PG B tg g := hB ▸ hg _ _ _ _ _
  have hTB : PIfs B ifs tt := hB ▸ ht _ _ _ _ _
  have hEB : PE B elt te := hB ▸ he _ _ _ _ _
  have stat : ∀ {H' : Hp}, (∀ b ∈ fp, H' b = none) → ∀ b ∈ fp, FpOk B [] H' b := fun {H'} hn b hb => by
    obtain ⟨f0, f1, f2', f3', f4, f5⟩ := f3 b hb
    rw [← hB]
    refine ⟨hn b hb, Nat.ne_of_lt (Nat.lt_trans (hfo b hb) (hD ▸ hsz3)), fun z => ?_, .inl hb, fun x c e => f4 x c (hcl.sub x c e), fun p hp => ?_⟩
    · rcases List.mem_cons.mp (I.stkSub b z) with z | z
      · exact f1 z
      · exact f2' z
    · rw [show (blk X N' scope cl s3.heap.objs.size s3 (upd H2 D (.lst [])) fp (X.pn ++ pins)).pn = X.pn ++ pins from rfl, List.append_nil] at hp
      exact f5 p hp
  have loop : ∀ s4 : Shared, Inv B [] (σf σ) (upd H2 D (.lst [])) s4 → tn 0 s4.heap →
      codeAny (model X.prog X.w) X.A (.compLoop (.ListComp elt [⟨tg, iter, ifs, 0⟩] scope pos) 0 (.ref it) (.ref D) (compEnvC scope cl s3.heap.objs.size X.env)) (compPost (model X.prog X.w) X.A X.xe (some (assign (.Name y py) X.env)) (fun _ s' => SP X pins Dn .next s') (.ref D) s3.heap.objs.size) s4 := by
    intro s4 I4 st4
    refine compLoop_gen (I := fun n s' => ∃ i ys H', Inv B [] (σf σ) H' s' ∧ tn i s'.heap ∧ (∀ b ∈ fp, H' b = none) ∧ W i n ys H') ?_ m0 ⟨0, [], _, I4, st4, fun b hb => (f3 b hb).1, w0⟩
    rintro n s5 ⟨i, ys, H5, I5, st5, fr5, w5⟩
    obtain ⟨hD5, hlen5, alt⟩ := turn i n ys H5 w5
    rcases alt with ⟨stop, qn⟩ | ⟨go, step⟩
    · have z := T.done B hBp hBw hBK hBc i [] s5 (σf σ) H5 (fun _ _ => False) I5 (stat fr5) st5 stop
      rw [hBA] at z
      refine thn z fun r s6 ⟨hr, I6⟩ => ?_
      subst hr
      obtain ⟨m6, hn6, _⟩ := I6.loc
      rw [hBe] at hn6
      subst hB
      have I6x : Inv X pins σ H5 s6 := blk_end I3 f3 I6 (h'' := s6.heap) ⟨rfl, fun _ _ => rfl⟩
      have fC : FpOk X pins H5 s3.heap.objs.size := I3.fpOk (Nat.le_refl _) I6.free
      obtain ⟨g0, g1, g2, g3, g4, g5⟩ := id fC
      obtain ⟨oC, es, ep, hoC, hdC, rest⟩ := hn6
      have I6p := I6x.pinned (fp := [s3.heap.objs.size]) (fun b hb => by rw [List.mem_singleton.mp hb]; exact fC) (fun b hb => ⟨oC, by rw [List.mem_singleton.mp hb]; exact hoC, fun v e => by rw [hdC] at e; cases e⟩)
      show wpAny (model X.prog X.w) X.A (assign (.Name y py) X.env (.ref D)) _ X.xe s6
      refine thn (pg_name (i := iy) (pos := py) hnd hiy hy hfy _ s6 σ H5 (.ref D) (.ref D) (fun σ' H' => Dn.nx σ' H') I6p rfl qn) fun _ s7 ⟨σ7, H7, I7, q7⟩ => ?_
      have pc := I7.pin (s3.heap.objs.size, oC) (List.mem_append_right _ (List.mem_append_right _ (mem_pinsAt (by simp) hoC)))
      refine ⟨m6, ⟨oC, es, ep, pc.1, hdC, rest⟩, fun h' hs' => ⟨σ7, H7, ?_, q7⟩⟩
      exact I7.unpinned.turned (t' := s7.toks) (fun b o hb e => hs'.extBut b o hb e) pc.2.1 g1 g3 g4 g5
    · have z := T.item B hBp hBw hBK hBc i [] s5 (σf σ) H5 (fun _ _ => False) I5 (stat fr5) st5 go
      rw [hBA] at z
      refine thn z fun r s6 ⟨u, hr, h6⟩ => ?_
      subst hr
      refine thn h6 fun _ s7 ⟨x, H7, I7, r7, y7, st7, fr7⟩ => ?_
      have I7' := I7.pinned (stat fr7) (T.obj _ _ st7)
      have z8 := hGB _ s7 (σf σ) H7 x u _ I7' r7 (step x H7 y7)
      rw [hBp, hBw, hBA, hBe, hBx] at z8
      refine thn z8 fun _ s8 ⟨σ8, H8, I8, k8, q8⟩ => ?_
      have z9 := hTB _ s8 σ8 H8 _ I8 q8
      rw [hBp, hBw, hBA, hBe, hBx] at z9
      refine thn z9 fun ok s9 ⟨H9, I9, q9⟩ => ?_
      have again : ∀ {ys' : List V} {H' : Hp} {s' : Shared}, Inv B ([] ++ pinsAt fp s7.heap) σ8 H' s' → (∃ m', m' < n ∧ W (i + 1) m' ys' H') → ∃ m, m < n ∧ ∃ i ys H', Inv B [] (σf σ) H' s' ∧ tn i s'.heap ∧ (∀ b ∈ fp, H' b = none) ∧ W i m ys H' := fun {ys' H' s'} J ⟨m', hm, w'⟩ => by
        refine ⟨m', hm, i + 1, ys', H', J.unpinned.weak k8.len.symm k8.at', T.keep _ _ _ st7 fun b hb o e => (J.pin (b, o) (List.mem_append_right _ (List.mem_append_right _ (mem_pinsAt hb e)))).1, fun b hb => ?_, w'⟩
        obtain ⟨o, e, d⟩ := T.obj _ _ st7 b hb
        exact (J.pin (b, o) (List.mem_append_right _ (List.mem_append_right _ (mem_pinsAt hb e)))).2.1
      cases ok with
      | false => exact again I9 q9
      | true =>
        have z10 := hEB _ s9 σ8 H9 _ I9 q9
        rw [hBp, hBw, hBA, hBe, hBx] at z10
        refine thn z10 fun y10 s10 ⟨y, H10, I10, r10, hD10, q10⟩ => ?_
        have z11 := mt_append (X := B) _ s10 σ8 H10 (.ref D) [y] (.ref D) [y10] (fun _ H' => ∃ m', m' < n ∧ W (i + 1) m' (ys ++ [y]) H') I10 rfl (.cons r10 .nil) ⟨D, ys, y, rfl, rfl, hD10, hlen5, q10⟩
        rw [hBp, hBw, hBA, hBx] at z11
        refine thn z11 fun _ s11 ⟨_, H11, I11, _, q11⟩ => again I11 q11
  have st4 : tn 0 ({ s3 with heap := h₁, toks := s3.toks } : Shared).heap := T.keep _ _ _ st2 fun b hb o e => hk3 b o (by rw [hh3]; exact Heap.get?_push_of_some _ e)
  have L4 := loop _ I4 st4
  subst hs3
  exact codeAny_compStart_list L4 (T.self _ 0 _ _ _ st4 L4)
theorem ps_compC {X : Cx} {iy : Nat} {y : Str} {py spos : Pos} {elt tg iter : Expr} {ifs : List Expr} {scope : Scope} {pos : Pos} {N' : List Str} {wi : TI} {g : TG} {tt : TT} {te : TE} (σf : St → St)
    (hc : X.calm = true) (hkind : scope.kind = .function) (hcell : ∀ y ∈ scope.names, y.2 ≠ .cell) (hnames : ∀ y ∈ scope.names, y.2 = .local → scope.names.lookup y.1 = some .local)
    (hk : ∀ y ∈ scope.names, y.2 = NameKind.free → X.env.kindOf y.1 = some .cell ∨ X.env.kindOf y.1 = some .free)
    (hN : ∀ cl (σ : St), σ.length = X.N.length → BlkN X N' scope cl σ (σf σ)) (hi : PI X tg iter wi)
    (hg : ∀ cl C s₀ H₀ ex pn, PG (blk X N' scope cl C s₀ H₀ ex pn) tg g) (ht : ∀ cl C s₀ H₀ ex pn, PIfs (blk X N' scope cl C s₀ H₀ ex pn) ifs tt) (he : ∀ cl C s₀ H₀ ex pn, PE (blk X N' scope cl C s₀ H₀ ex pn) elt te)
    (hnd : X.N.Nodup) (hiy : X.N[iy]? = some y) (hy : Loc X.env.scope y) (hfy : X.fn y = true ∨ X.env.scope.names.lookup y = some .local)
    (hsw : swapsWith (.ListComp elt [⟨tg, iter, ifs, 0⟩] scope pos) (some (.Name y py)) spos.line X.env = pure true)
    (hs : ∀ x, foldedSetIterable iter X.env x = pure x := by intro _; rfl) : PS X (.Assign [.Name y py] (.ListComp elt [⟨tg, iter, ifs, 0⟩] scope pos) spos) (tAsg (tComp σf wi g tt te) (gName iy)) := by
  intro pins s σ H D I h
  obtain ⟨cl, hcl⟩ := clOk_of I.ok hcell hk
  exact ps_comp σf hc hkind hcell hnames hcl (hN cl) hi (hg cl) (ht cl) (he cl) hnd hiy hy hfy hsw hs pins s σ H D I h
end L2

namespace L2
open PySem PySem.Spec PyProof.Rows
/-! ### comprehensions, by what each element is -/
/-- an iterator that gives the things xs, as long as the heap only grows -/
structure Ys (J : It) (xs : List V) (H1 : Hp) : Prop where
  go : ∀ i H, Same H1 H → i < xs.length → J.go i H
  yld : ∀ i H x H', Same H1 H → i < xs.length → J.yld i H x H' → H' = H ∧ xs[i]? = some x
  stop : ∀ i H, Same H1 H → xs.length ≤ i → J.stop i H
theorem Ys.list {K : PySem.W.Frag} {a : Addr} {xs : List V} {H1 : Hp} (h : SqL K H1 a xs) : Ys (Itl K a) xs H1 where
  go := fun i H s hi => ⟨xs, xs[i], s.seq h, List.getElem?_eq_getElem hi⟩
  yld := fun i H x H' s _ y => ⟨y.1, y.2 xs (s.seq h)⟩
  stop := fun i H s hi => ⟨xs, s.seq h, hi⟩
def rngV (lo : Int) (n : Nat) : List V := (List.range n).map fun (i : Nat) => V.int (lo + (i : Int))
theorem snoc_get {α : Type} {ys : List α} {y z : α} {j : Nat} (h : (ys ++ [y])[j]? = some z) : (j < ys.length ∧ ys[j]? = some z) ∨ (j = ys.length ∧ z = y) := by
  by_cases hj : j < ys.length
  · rw [List.getElem?_append_left hj] at h
    exact .inl ⟨hj, h⟩
  · rw [List.getElem?_append_right (by omega)] at h
    have e0 : j - ys.length = 0 := by
      cases hz : j - ys.length with
      | zero => rfl
      | succ n => rw [hz] at h; simp at h
    rw [e0] at h
    exact .inr ⟨by omega, by simpa using h.symm⟩
theorem comp_rel {J : It} {xs : List V} {D : Addr} {g : TG} {te : TE} {σ0 : St} {QD : Hp → Prop} {H1 : Hp} (Y : Ys J xs H1) (Pr : Nat → V → V → Hp → Prop) (hP : ∀ i x y H H', Pr i x y H → Tk H H' → Pr i x y H') (hD : H1 D = none) (hl : xs.length ≤ 1000)
    (hs : ∀ i x H' (R : VK), xs[i]? = some x → Same H1 H' → (∀ y H4, Same H' H4 → Pr i x y H4 → R y H4) → g x σ0 H' fun σ2 H2 => Keep σ0 σ2 ∧ te σ2 H2 R)
    (hd : ∀ ys H', Same H1 H' → H' D = some (.lst ys) → ys.length = xs.length → (∀ i x y, xs[i]? = some x → ys[i]? = some y → Pr i x y H') → QD H') :
    ∃ W : Nat → Nat → List V → Hp → Prop, (∃ m, W 0 m [] (upd H1 D (.lst []))) ∧ ∀ i m ys H, W i m ys H → H D = some (.lst ys) ∧ ys.length < sizeLine ∧
      ((J.stop i H ∧ QD H) ∨ (J.go i H ∧ ∀ x H', J.yld i H x H' → g x σ0 H' fun σ2 H2 => Keep σ0 σ2 ∧ tNoIf σ2 H2 fun b H3 =>
        if b = true then te σ2 H3 fun y H4 => H4 D = some (.lst ys) ∧ ∃ m', m' < m ∧ W (i + 1) m' (ys ++ [y]) (upd H4 D (.lst (ys ++ [y]))) else ∃ m', m' < m ∧ W (i + 1) m' ys H3)) := by
  refine ⟨fun i m ys H => m = xs.length - i ∧ i ≤ xs.length ∧ Same H1 H ∧ H D = some (.lst ys) ∧ ys.length = i ∧ ∀ j x y, xs[j]? = some x → ys[j]? = some y → Pr j x y H,
    ⟨_, rfl, Nat.zero_le _, Same.upd hD, upd_same, rfl, fun j x y _ h => by simp at h⟩, ?_⟩
  rintro i m ys H ⟨rfl, hi, sm, hDH, yl, pr⟩
  refine ⟨hDH, small1000 (by omega), ?_⟩
  by_cases hlt : i < xs.length
  · refine .inr ⟨Y.go i H sm hlt, fun x H' y => ?_⟩
    obtain ⟨rfl, hx⟩ := Y.yld i H x H' sm hlt y
    refine hs i x H' _ hx sm fun y H4 s4 py => ?_
    have hD4 := s4 _ _ hDH
    have tk : Tk H4 (upd H4 D (.lst (ys ++ [y]))) := Tk.lst hD4
    refine ⟨hD4, xs.length - (i + 1), by omega, rfl, hlt, fun b o hb => ?_, upd_same, by rw [List.length_append, yl]; rfl, fun j x' y' hx' hy' => ?_⟩
    · rw [upd_ne (ne_of_none hb hD)]
      exact s4 _ _ (sm _ _ hb)
    · rcases snoc_get hy' with ⟨_, hy'⟩ | ⟨e, e'⟩
      · exact hP _ _ _ _ _ (hP _ _ _ _ _ (pr j x' y' hx' hy') (Same.tk s4)) tk
      · subst e'
        have : j = i := by omega
        subst this
        rw [hx] at hx'
        cases hx'
        exact hP _ _ _ _ _ py tk
  · have e : i = xs.length := by omega
    subst e
    exact .inl ⟨Y.stop _ H sm (Nat.le_refl _), hd ys H sm hDH yl pr⟩
/-! ### rules within a comprehension: the module is named, so that the reading does not hang on the block -/
theorem ix_tupK {X : Cx} {K : PySem.W.Frag} (h : X.K = K) : IxR X (rIxT K) := h ▸ ix_tup
/-- a comprehension with a test -/
theorem comp_filt {J : It} {xs : List V} {D : Addr} {g : TG} {tt : TT} {te : TE} {σ0 : St} {QD : Hp → Prop} {H1 : Hp} (Y : Ys J xs H1) (p : V → Bool) (Pr : V → V → Hp → Prop) (hP : ∀ x y H H', Pr x y H → Tk H H' → Pr x y H') (hD : H1 D = none) (hl : xs.length ≤ 1000)
    (hs : ∀ (i : Nat) x H' (R1 : VK) (R2 : Hp → Prop), xs[i]? = some x → Same H1 H' → (p x = true → ∀ y H4, Same H' H4 → Pr x y H4 → R1 y H4) → (p x = false → ∀ H4, Same H' H4 → R2 H4) → g x σ0 H' fun σ2 H2 => Keep σ0 σ2 ∧ tt σ2 H2 fun b H3 => if b = true then te σ2 H3 R1 else R2 H3)
    (hd : ∀ ys H', Same H1 H' → H' D = some (.lst ys) → ys.length = (xs.filter p).length → (∀ (i : Nat) x y, (xs.filter p)[i]? = some x → ys[i]? = some y → Pr x y H') → QD H') :
    ∃ W : Nat → Nat → List V → Hp → Prop, (∃ m, W 0 m [] (upd H1 D (.lst []))) ∧ ∀ i m ys H, W i m ys H → H D = some (.lst ys) ∧ ys.length < sizeLine ∧
      ((J.stop i H ∧ QD H) ∨ (J.go i H ∧ ∀ x H', J.yld i H x H' → g x σ0 H' fun σ2 H2 => Keep σ0 σ2 ∧ tt σ2 H2 fun b H3 =>
        if b = true then te σ2 H3 fun y H4 => H4 D = some (.lst ys) ∧ ∃ m', m' < m ∧ W (i + 1) m' (ys ++ [y]) (upd H4 D (.lst (ys ++ [y]))) else ∃ m', m' < m ∧ W (i + 1) m' ys H3)) := by
  refine ⟨fun i m ys H => m = xs.length - i ∧ i ≤ xs.length ∧ Same H1 H ∧ H D = some (.lst ys) ∧ ys.length = ((xs.take i).filter p).length ∧ ∀ (j : Nat) x y, ((xs.take i).filter p)[j]? = some x → ys[j]? = some y → Pr x y H,
    ⟨_, rfl, Nat.zero_le _, Same.upd hD, upd_same, rfl, fun j x y _ h => by simp at h⟩, ?_⟩
  rintro i m ys H ⟨rfl, hi, sm, hDH, yl, pr⟩
  have yl' : ys.length ≤ xs.length := by
    rw [yl]
    exact Nat.le_trans (List.length_filter_le _ _) (by rw [List.length_take]; omega)
  refine ⟨hDH, small1000 (by omega), ?_⟩
  by_cases hlt : i < xs.length
  · refine .inr ⟨Y.go i H sm hlt, fun x H' y => ?_⟩
    obtain ⟨rfl, hx⟩ := Y.yld i H x H' sm hlt y
    have et : xs.take (i + 1) = xs.take i ++ [x] := by rw [List.take_add_one, hx]; rfl
    refine hs i x H' _ _ hx sm (fun px y H4 s4 py => ?_) (fun px H4 s4 => ?_)
    · have hD4 := s4 _ _ hDH
      have tk : Tk H4 (upd H4 D (.lst (ys ++ [y]))) := Tk.lst hD4
      refine ⟨hD4, xs.length - (i + 1), by omega, rfl, hlt, fun b o hb => ?_, upd_same, ?_, fun j x' y' hx' hy' => ?_⟩
      · rw [upd_ne (ne_of_none hb hD)]
        exact s4 _ _ (sm _ _ hb)
      · rw [et, List.filter_append, List.length_append, List.length_append, yl, List.filter_cons_of_pos px]
        rfl
      · rw [et, List.filter_append, List.filter_cons_of_pos px] at hx'
        rcases snoc_get hx' with ⟨h1, hx'⟩ | ⟨h1, hx'⟩
        · rcases snoc_get hy' with ⟨_, hy'⟩ | ⟨e, _⟩
          · exact hP _ _ _ _ (hP _ _ _ _ (pr j x' y' hx' hy') (Same.tk s4)) tk
          · omega
        · rcases snoc_get hy' with ⟨h2, _⟩ | ⟨_, hy'⟩
          · omega
          · subst hx' hy'
            exact hP _ _ _ _ py tk
    · refine ⟨xs.length - (i + 1), by omega, rfl, hlt, sm.trans s4, s4 _ _ hDH, ?_, fun j x' y' hx' hy' => ?_⟩
      · rw [et, List.filter_append, List.filter_cons_of_neg (by rw [px]; exact Bool.false_ne_true), List.filter_nil, List.append_nil, yl]
      · rw [et, List.filter_append, List.filter_cons_of_neg (by rw [px]; exact Bool.false_ne_true), List.filter_nil, List.append_nil] at hx'
        exact hP _ _ _ _ (pr j x' y' hx' hy') (Same.tk s4)
  · have e : i = xs.length := by omega
    subst e
    rw [List.take_length] at yl pr
    exact .inl ⟨Y.stop _ H sm (Nat.le_refl _), hd ys H sm hDH yl pr⟩
end L2

/-! ### lists of lists: copies, comprehensions of lists, ==; methods within a comprehension -/
namespace L2
open PySem PySem.Spec PyProof.Rows
end L2

/-! ### x in a list of things of any kind -/
namespace L2
open PySem PySem.Spec PyProof.Rows PySem.W
def toV : Value → V
  | .bool b => .bl b
  | .int i _ => .int i
  | .str z _ => .str z
  | .ref a => .ref a
  | _ => .non
theorem toV_of {v : V} {u : Value} (r : RelV v u) (h : Sf v) : toV u = v := by
  rcases h with h | ⟨a, rfl⟩
  · cases v with
    | non => cases r; rfl
    | bl b => cases r; rfl
    | int i => obtain ⟨t, rfl⟩ := r; rfl
    | str z => obtain ⟨t, rfl⟩ := r; rfl
    | _ => exact absurd (show false = true from h) Bool.false_ne_true
  · cases r
    rfl
def rInG (K : PySem.W.Frag) : R2 := fun x y H Q => ∃ p us, ∃ e : V → Bool, y = .ref p ∧ SqL K H p us ∧ (∀ u ∈ us, Sf u ∧ DEq K H 40 u x (e u)) ∧ Q (.bl (us.any e)) H
theorem any_toV {e : V → Bool} : ∀ {xs : List V} {us : List Value}, Vals xs us → (∀ v ∈ xs, Sf v) → us.any (fun u => e (toV u)) = xs.any e
  | _, _, .nil, _ => rfl
  | y :: xs, u :: us, .cons r t, f => by
    rw [List.any_cons, List.any_cons, any_toV t fun v hv => f v (List.mem_cons_of_mem _ hv), toV_of r (f y (List.mem_cons_self ..))]
section
variable {X : Cx}
theorem mem_toV {pins : List (Addr × Obj)} {σ : St} {H : Hp} {s : Shared} (I : Inv X pins σ H s) {A : Around} (hu : A.units + 40 < cLine) {e : V → Bool} {x : V} {v : Value} (rx : RelV x v) : ∀ {xs : List V} {us : List Value}, Vals xs us → (∀ u ∈ xs, Sf u ∧ DEq X.K H 40 u x (e u)) → ∀ u ∈ us, SeqAt.EqAt A s u v (e (toV u))
  | _, _, .nil, _ => fun u hu => by cases hu
  | y :: xs, u :: us, .cons r t, f => fun u' hu' => by
    rcases List.mem_cons.mp hu' with rfl | hu'
    · obtain ⟨sf, hd⟩ := f y (List.mem_cons_self ..)
      rw [toV_of r sf]
      exact DEq.at I hd hu r rx
    · exact mem_toV I hu rx t (fun v hv => f v (List.mem_cons_of_mem _ hv)) u' hu'
end
end L2

/-! ### keys that are tuples of a plain thing and a tuple of plain things -/
namespace NK
open PySem PySem.Spec PyProof.Rows
section
variable {prog : Program} {w : World} {K : Type} [DecidableEq K] (knd : KeyKind prog w K)
def IsPairKey (h : Heap) (k : K × List K) (a : Addr) : Prop := ∃ o v b n, h.get? a = some o ∧ o.cls = .type "tuple" ∧ o.data = .seq #[v, .ref b] n ∧ knd.is k.1 v = true ∧ IsTupleKey knd h k.2 b
variable {knd}
theorem IsPairKey.typeIs {s : Shared} {k : K × List K} {a : Addr} (x : IsPairKey knd s.heap k a) : s.TypeIs (.ref a) "tuple" := let ⟨o, _, _, _, ho, hc, _⟩ := x; ⟨o, ho, hc⟩
theorem IsPairKey.inj {h : Heap} {a : Addr} {x y : K × List K} (hx : IsPairKey knd h x a) (hy : IsPairKey knd h y a) : x = y := by
  obtain ⟨o, v, b, n, ho, _, hd, hi, hj⟩ := hx
  obtain ⟨o', v', b', n', ho', _, hd', hi', hj'⟩ := hy
  obtain rfl : o = o' := Option.some.inj (ho.symm.trans ho')
  rw [hd] at hd'
  injection hd' with h1 _
  have h2 := congrArg Array.toList h1
  injection h2 with h3 h4
  injection h4 with h5 _
  injection h5 with h6
  subst h3 h6
  exact Prod.ext (knd.inj _ _ _ hi hi') (hj.inj hj')
theorem IsPairKey.keeps {h h' : Heap} {k : K × List K} {a d : Addr} {o : Obj} {es ep} (x : IsPairKey knd h k a) (ho : h.get? d = some o) (hd : o.data = .dict es ep) (hs : Heap.SameBut d h h') : IsPairKey knd h' k a := by
  obtain ⟨o', v, b, n, ho', hc, hd', hi, hj⟩ := x
  have hne : a ≠ d := by
    rintro rfl
    obtain rfl : o' = o := Option.some.inj (ho'.symm.trans ho)
    rw [hd] at hd'; exact nomatch hd'
  exact ⟨o', v, b, n, (hs.2 a hne).trans ho', hc, hd', hi, hj.keeps ho hd hs⟩
def pairKeyHash (knd : KeyKind prog w K) (k : K × List K) : Int := reduceHash (Builtin.Tuple.tupleHashOf [knd.hash k.1, tupleKeyHash knd k.2])
variable {A : Around} {E : Value → Shared → Prop} {s : Shared}
theorem pyHash_pair {k : K × List K} {a : Addr} {Q : Int → Shared → Prop} (hu : A.units + 1 < cLine) (hk : IsPairKey knd s.heap k a) (h : Q (pairKeyHash knd k) { s with toks := s.toks + (k.2.length + 3) }) :
    wpAny (model prog w) A (pyHash (.ref a)) Q E s := by
  have hT := hk.typeIs
  obtain ⟨o, v, b, n, ho, _, hd, hi, hj⟩ := hk
  unfold pyHash
  first | unfold pyHashByItsType | skip
  first | refine wpAny_bind (wpAny_cRoomFor_or (.inr (by omega)) ?_) | skip
  refine wpAny_bind (wpAny_specialOf hT F.slot_tuple_hash.lookup ?_)
  show wpAny _ _ (if (some (Value.builtin "tuple.__hash__") == some Value.none) = true then _ else _) Q E s
  rw [if_neg (by rw [beq_builtin_none]; exact Bool.false_ne_true)]
  refine wpAny_bind (wpAny_specialOf hT F.slot_tuple_hash.lookup ?_)
  show wpAny _ _ (callSpecialIfBoundUnlessNone? (.ref a) "__hash__" _ >>= _) Q E s
  refine wpAny_bind (wpAny_callSpecialIfBoundUnlessNone?_slot hT F.slot_tuple_hash (wpAny_call_entry F.slot_tuple_hash hT F.entry_tuple_hash ?_ (F.args_tuple_hash_1 _)))
  show wpAny _ _ (Builtin.Tuple.tupleItemsOf (.ref a) >>= _) _ _ s
  refine wpAny_bind (wpAny_tupleItemsOf ho hd ?_)
  refine wpAny_bind ?_
  rw [← Array.forIn_toList]
  refine wpAny_forIn_list _
    (fun rest (acc : Array Int) s' => (rest = [v, .ref b] ∧ acc.toList = [] ∧ s' = s) ∨ (rest = [.ref b] ∧ acc.toList = [knd.hash k.1] ∧ s' = { s with toks := s.toks + 1 }) ∨ (rest = [] ∧ acc.toList = [knd.hash k.1, tupleKeyHash knd k.2] ∧ s' = { s with toks := s.toks + 1 + (k.2.length + 1) }))
    _ ?_ ?_ _ _ (.inl ⟨rfl, rfl, rfl⟩)
  · rintro x rest acc s' (⟨e, ha, rfl⟩ | ⟨e, ha, rfl⟩ | ⟨e, _⟩)
    · injection e with e1 e2
      subst e1 e2
      refine wpAny_bind (knd.pyHash hi ?_)
      first
        | exact wpAny_pure (.inr (.inl ⟨rfl, by simp [ha], rfl⟩))
        | exact wpAny_bind (wpAny_pure (wpAny_pure (.inr (.inl ⟨rfl, by simp [ha], rfl⟩))))
    · injection e with e1 e2
      subst e1 e2
      refine wpAny_bind (wpAny_pyHash_tuple (ks := k.2) (by first | exact hu | (show _ < _; simp only [Around.in1]; omega)) hj ?_)
      first
        | exact wpAny_pure (.inr (.inr ⟨rfl, by simp [ha], rfl⟩))
        | exact wpAny_bind (wpAny_pure (wpAny_pure (.inr (.inr ⟨rfl, by simp [ha], rfl⟩))))
    · cases e
  · rintro acc s' (⟨e, _⟩ | ⟨e, _⟩ | ⟨_, ha, rfl⟩)
    · cases e
    · cases e
    show wpAny _ _ (retInt (Builtin.Tuple.tupleHashOf acc.toList)) _ _ _
    rw [ha]
    refine wpAny_ret_mkInt ?_
    show wpAny _ _ (if (decide (-(2 : Int) ^ 63 ≤ Builtin.Tuple.tupleHashOf [knd.hash k.1, tupleKeyHash knd k.2]) && decide (Builtin.Tuple.tupleHashOf [knd.hash k.1, tupleKeyHash knd k.2] < 2 ^ 63)) = true then _ else _) Q E _
    unfold pairKeyHash reduceHash at h
    by_cases hr : (decide (-(2 : Int) ^ 63 ≤ Builtin.Tuple.tupleHashOf [knd.hash k.1, tupleKeyHash knd k.2]) && decide (Builtin.Tuple.tupleHashOf [knd.hash k.1, tupleKeyHash knd k.2] < 2 ^ 63)) = true
    · rw [if_pos hr]
      rw [if_pos hr] at h
      exact wpAny_pure (by simpa [Nat.add_assoc, Nat.add_comm, Nat.add_left_comm] using h)
    · rw [if_neg hr]
      rw [if_neg hr] at h
      exact wpAny_bind (wpAny_rule (wpAny_pure (by simpa [Nat.add_assoc, Nat.add_comm, Nat.add_left_comm] using h)))
theorem pair_eq_tree {x y : K × List K} {a b : Addr} {P : Fin → Shared → Prop} (hu : A.units < cLine) (hx : IsPairKey knd s.heap x a) (hy : IsPairKey knd s.heap y b) (h : P (.done (.ret (.bool (decide (x = y))))) s) :
    wpAny (model prog w) A (Builtin.«tuple.__eq__» ⟨[.ref a, .ref b], []⟩) P E s := by
  have hTb := hy.typeIs
  obtain ⟨oa, u, c, na, hoa, _, hda, hia, hja⟩ := hx
  obtain ⟨ob, v, d, nb, hob, _, hdb, hib, hjb⟩ := hy
  show wpAny _ _ (isInstance (.ref b) (.type "tuple") >>= _) _ _ s
  refine wpAny_bind (wpAny_isInstance hTb isSubtype_tuple_tuple ?_)
  simp only [Bool.not_true, Bool.false_eq_true, if_false]
  refine wpAny_bind (wpAny_tupleItemsOf hoa hda ?_)
  refine wpAny_bind (wpAny_tupleItemsOf hob hdb ?_)
  refine wpAny_bind ?_
  refine wpAny_forIn_list _
    (fun rest r s' => r.1 = none ∧ s' = s ∧ (rest = [(u, v), (.ref c, .ref d)] ∨ (rest = [(.ref c, .ref d)] ∧ x.1 = y.1) ∨ (rest = [] ∧ x = y)))
    _ ?_ ?_ _ _ ⟨rfl, rfl, .inl rfl⟩
  · rintro ⟨p, q⟩ rest r s' ⟨hr, rfl, e | ⟨e, e1⟩ | ⟨e, _⟩⟩
    · injection e with e1 e2
      injection e1 with e3 e4
      subst e2 e3 e4
      refine wpAny_bind (knd.eqBool (a := x.1) (b := y.1) hia hib ?_)
      by_cases hk : x.1 = y.1
      · rw [decide_eq_true hk]
        simp only [Bool.not_true, Bool.false_eq_true, if_false]
        exact wpAny_pure ⟨rfl, rfl, .inr (.inl ⟨by trivial, hk⟩)⟩
      · rw [decide_eq_false hk]
        simp only [Bool.not_false, if_true]
        rw [decide_eq_false (fun z => hk (by rw [z]))] at h
        exact wpAny_bind (wpAny_pure (wpAny_pure (wpAny_pure h)))
    · injection e with e2 e3
      injection e2 with e4 e5
      subst e3 e4 e5
      refine wpAny_bind (wpAny_eqBool_tuple (x := x.2) (y := y.2) hu hja hjb ?_)
      by_cases hk : x.2 = y.2
      · rw [decide_eq_true hk]
        simp only [Bool.not_true, Bool.false_eq_true, if_false]
        exact wpAny_pure ⟨rfl, rfl, .inr (.inr ⟨by trivial, Prod.ext e1 hk⟩)⟩
      · rw [decide_eq_false hk]
        simp only [Bool.not_false, if_true]
        rw [decide_eq_false (fun z => hk (by rw [z]))] at h
        exact wpAny_bind (wpAny_pure (wpAny_pure (wpAny_pure h)))
    · cases e
  · rintro ⟨r1, r2⟩ s' ⟨hr, rfl, e | ⟨e, _⟩ | ⟨_, e1⟩⟩
    · cases e
    · cases e
    simp only at hr
    subst hr
    refine wpAny_pure ?_
    show P (.done (.ret (.bool true))) s'
    rw [decide_eq_true e1] at h
    exact h
theorem eqBool_pair {x y : K × List K} {a b : Addr} {Q : Bool → Shared → Prop} (hu : A.units + 1 < cLine) (hx : IsPairKey knd s.heap x a) (hy : IsPairKey knd s.heap y b) (h : Q (decide (x = y)) s) :
    wpAny (model prog w) A (eqBool (.ref a) (.ref b)) Q E s := by
  unfold eqBool
  try with_reducible refine wpAny_holding ?_
  show wpAny _ _ (if (Value.ref a == Value.ref b) = true then _ else _) Q E s
  by_cases hab : (Value.ref a == Value.ref b) = true
  · rw [if_pos hab]
    have e : a = b := by have := eq_of_beq hab; injection this
    subst e
    obtain rfl := hx.inj hy
    exact wpAny_bind (wpAny_rule (wpAny_pure (by simpa using h)))
  · rw [if_neg hab]
    exact wpAny_bind (wpAny_richCompare_same_room (op := .Eq) hx.typeIs hy.typeIs F.slot_tuple_eq
      (wpAny_call_entry F.slot_tuple_eq hx.typeIs F.entry_tuple_eq (pair_eq_tree hu hx hy ⟨_, rfl, (fun e => nomatch e), wpAny_truthy_bool h⟩) (F.args_tuple_eq_2 _ _)) (by omega))
theorem quiet_tuple {ks : List K} {a : Addr} {n : Nat} {Q : Bool → Shared → Prop} (hk : IsTupleKey knd s.heap ks a) (h : Q true s) : wpAny (model prog w) A (eqIsQuiet (n + 1) (.ref a)) Q E s := by
  have hT := hk.typeIs
  obtain ⟨o, items, m, ho, _, hd, hi⟩ := hk
  unfold eqIsQuiet
  refine wpAny_bind (wpAny_specialOf hT F.slot_tuple_eq.lookup ?_)
  show wpAny _ _ (isInstance (.ref a) (.type "tuple") >>= _) _ _ s
  refine wpAny_bind (wpAny_isInstance hT isSubtype_tuple_tuple ?_)
  simp only [Bool.not_true, Bool.false_eq_true, if_false]
  refine wpAny_bind (wpAny_seqItems ho hd ?_)
  refine wpAny_bind ?_
  show wpAny _ _ (forIn items _ _) _ _ s
  rw [← Array.forIn_toList]
  refine wpAny_forIn_list _ (fun rest r s' => r.1 = none ∧ s' = s ∧ ∀ v ∈ rest, carriedByValue v = true) _ ?_ ?_ _ _ ⟨rfl, rfl, hi.byValue⟩
  · rintro v rest r s' ⟨hr, rfl, hall⟩
    rw [eqIsQuiet_byValue _ (hall v List.mem_cons_self)]
    refine wpAny_bind (wpAny_pure ?_)
    simp only [Bool.not_true, Bool.false_eq_true, if_false]
    exact wpAny_pure ⟨rfl, rfl, fun u hu' => hall u (List.mem_cons_of_mem _ hu')⟩
  · rintro ⟨r1, r2⟩ s' ⟨hr, rfl, _⟩
    simp only at hr
    subst hr
    exact wpAny_pure h
theorem quiet_pair {k : K × List K} {a : Addr} {Q : Bool → Shared → Prop} (hk : IsPairKey knd s.heap k a) (h : Q true s) : wpAny (model prog w) A (eqIsQuiet 8 (.ref a)) Q E s := by
  have hT := hk.typeIs
  obtain ⟨o, v, b, m, ho, _, hd, hi, hj⟩ := hk
  unfold eqIsQuiet
  refine wpAny_bind (wpAny_specialOf hT F.slot_tuple_eq.lookup ?_)
  show wpAny _ _ (isInstance (.ref a) (.type "tuple") >>= _) _ _ s
  refine wpAny_bind (wpAny_isInstance hT isSubtype_tuple_tuple ?_)
  simp only [Bool.not_true, Bool.false_eq_true, if_false]
  refine wpAny_bind (wpAny_seqItems ho hd ?_)
  refine wpAny_bind ?_
  show wpAny _ _ (forIn #[v, .ref b] _ _) _ _ s
  rw [← Array.forIn_toList]
  refine wpAny_forIn_list _ (fun rest r s' => r.1 = none ∧ s' = s ∧ ∀ u ∈ rest, carriedByValue u = true ∨ u = .ref b) _ ?_ ?_ _ _ ⟨rfl, rfl, fun u hu => ?_⟩
  · rintro u rest r s' ⟨hr, rfl, hall⟩
    have go : wpAny (model prog w) A (eqIsQuiet 7 u) (fun z s1 => z = true ∧ s1 = s') E s' := by
      rcases hall u List.mem_cons_self with e | rfl
      · rw [eqIsQuiet_byValue _ e]
        exact wpAny_pure ⟨rfl, rfl⟩
      · exact quiet_tuple hj ⟨rfl, rfl⟩
    refine wpAny_bind (wpAny_mono go (fun z s1 hz => ?_) fun _ _ e => e)
    obtain ⟨rfl, rfl⟩ := hz
    simp only [Bool.not_true, Bool.false_eq_true, if_false]
    exact wpAny_pure ⟨rfl, rfl, fun u hu' => hall u (List.mem_cons_of_mem _ hu')⟩
  · rintro ⟨r1, r2⟩ s' ⟨hr, rfl, _⟩
    simp only at hr
    subst hr
    exact wpAny_pure h
  · simp only [List.mem_cons, List.not_mem_nil, or_false] at hu
    rcases hu with rfl | rfl
    · exact .inl (knd.byValue _ _ hi)
    · exact .inr rfl
end
def pairKind {prog : Program} {w : World} {K : Type} [DecidableEq K] (knd : KeyKind prog w K) : HeapKind prog w (K × List K) where
  is := IsPairKey knd
  hash := pairKeyHash knd
  draws := fun k => k.2.length + 3
  room := fun A => A.units + 1 < cLine
  inj := fun hx hy => hx.inj hy
  keeps := fun x ho hd hs => x.keeps ho hd hs
  pyHash := fun hu hk h => pyHash_pair hu hk h
  eqBool := fun hu hx hy h => eqBool_pair hu hx hy h
  quiet := fun hk h => quiet_pair hk h
end NK

/-! ### dicts whose keys are tuples (x, (y, ..)) -/
namespace L2
open PySem PySem.Spec PyProof.Rows
abbrev NKey := Key × List Key
/-- the key k lies at c -/
def KeyAt (H : Hp) (k : NKey) (c : Addr) : Prop := ∃ b, H c = some (.tup [kV k.1, .ref b]) ∧ H b = some (.tup (k.2.map kV))
abbrev KN (H : Hp) : List (NKey × V) → List (NKey × Addr × Value) → Prop := Paired fun p q => p.1 = q.1 ∧ KeyAt H p.1 q.2.1 ∧ RelV p.2 q.2.2
def DObj (P : Program) (w : World) (a : Addr) (xs : List (NKey × Addr × Value)) (h : Heap) : Prop := ∃ o es ep, h.get? a = some o ∧ o.ExactDict ∧ o.data = .dict es ep ∧ es.toList = xs.map (entryOfKey (NK.pairKind (mixKind P w)))
/-- a dict with such keys -/
structure ND (P : Program) (w : World) (H : Hp) (a : Addr) (kvs : List (NKey × V)) : Prop where
  ex : ∃ xs, H a = some (.ext (DObj P w a xs)) ∧ KN H kvs xs ∧ (xs.map (·.1)).Nodup
  z : kvs.length ≤ sizeLine
  ne : (a == sysModules) = false
section
variable {P : Program} {w : World} {H H' : Hp} {h : Heap} {a : Addr} {kvs : List (NKey × V)}
end
/-- a dict of ints, texts, tuples of them, or of tuples (x, (y, ..)) -/
def DGetX (P : Program) (w : World) (H : Hp) (a : Addr) (y : V) (r : Option V) : Prop := DGet H a y r ∨ ∃ kvs k b, ND P w H a kvs ∧ y = .ref b ∧ KeyAt H k b ∧ r = valV kvs k
def DPutX (P : Program) (w : World) (H : Hp) (a : Addr) (y v : V) (N : Hp → Prop) : Prop := (∃ H', DPut H a y v H' ∧ N H') ∨
  ∃ kvs k b, ND P w H a kvs ∧ y = .ref b ∧ KeyAt H k b ∧ kvs.length < sizeLine ∧ ∀ o, ND P w (upd H a o) a (putK kvs k v) → N (upd H a o)
section
variable {X : Cx} {pins : List (Addr × Obj)} {σ : St} {H : Hp} {s : Shared} {a : Addr} {y v : V} {u r : Value} {o : Option V} {A : Around} {E : Value → Shared → Prop}
end
def tDGetX (P : Program) (w : World) (td ty : TE) : TE := fun σ H Q => td σ H fun x H1 => ty σ H1 fun y H2 => ∃ a v, x = .ref a ∧ DGetX P w H2 a y (some v) ∧ Q v H2
def tDInX (P : Program) (w : World) (ty td : TE) : TE := fun σ H Q => ty σ H fun y H1 => td σ H1 fun x H2 => ∃ a o, x = .ref a ∧ DGetX P w H2 a y o ∧ Q (.bl o.isSome) H2
def tDNotInX (P : Program) (w : World) (ty td : TE) : TE := fun σ H Q => ty σ H fun y H1 => td σ H1 fun x H2 => ∃ a o, x = .ref a ∧ DGetX P w H2 a y o ∧ Q (.bl (!o.isSome)) H2
def sDPutX (P : Program) (w : World) (td ty tv : TE) : TS := fun D σ H => tv σ H fun v H1 => td σ H1 fun x H2 => ty σ H2 fun y H3 => ∃ a, x = .ref a ∧ DPutX P w H3 a y v (D.nx σ)
/-- {}, of either kind -/
def tDNewX (P : Program) (w : World) : TE := fun _ H Q => (∀ p, H p = none → Q (.ref p) (upd H p (.dK []))) ∨ ∀ p o, H p = none → ND P w (upd H p o) p [] → Q (.ref p) (upd H p o)
/-- {k: v}, of either kind -/
def tDisp1X (P : Program) (w : World) (tk tv : TE) : TE := fun σ H Q => tDisp [(tk, tv)] σ H Q ∨ ∀ p o, H p = none → ND P w (upd H p o) p [] →
  tk σ (upd H p o) fun x H1 => tv σ H1 fun y H2 => ND P w H2 p [] ∧ ∃ k b, x = .ref b ∧ KeyAt H2 k b ∧ ∀ o', ND P w (upd H2 p o') p [(k, y)] → Q (.ref p) (upd H2 p o')
section
variable {X : Cx} {o i e value : Expr} {pos pos' tpos : Pos} {td ty tv tk : TE}
end
end L2

namespace L2
open PySem PySem.Spec PyProof.Rows
/-! ### zip of a tuple and a list -/
section
variable {prog : Program} {w : World} {A : Around} {E : Value → Shared → Prop} {s : Shared}
/-- the objects of a zip are apart -/
structure Ap (z TI TO i1 i2 : Addr) (f1 f2 : List Addr) : Prop where
  a1 : ∀ b ∈ f1, b ≠ z ∧ b ≠ TO ∧ b ≠ i2
  a2 : ∀ b ∈ f2, b ≠ z ∧ b ≠ TO ∧ b ≠ i1
  m1 : i1 ∈ f1
  m2 : i2 ∈ f2
  tz : TI ≠ z
  tO : TI ≠ TO
  t1 : TI ≠ i1
  t2 : TI ≠ i2
  oz : TO ≠ z
section
variable {z TI TO i1 i2 : Addr} {f1 f2 : List Addr} {n1 n2 k : Nat} {P1 P2 : Nat → Value → Prop} {S1 S2 : Nat → Heap → Prop} {a b : Value}
end
end
/-- the i-th items of a tuple and of a list, in a new tuple -/
def Itz (K : PySem.W.Frag) (a b : Addr) : It :=
  ⟨fun i H => ∃ xs ys, SqT K H a xs ∧ SqL K H b ys ∧ i < xs.length ∧ i < ys.length,
   fun i H v H' => ∃ T, H T = none ∧ v = .ref T ∧ ∀ xs ys, SqT K H a xs → SqL K H b ys → ∃ x y, xs[i]? = some x ∧ ys[i]? = some y ∧ H' = upd H T (.tup [x, y]),
   fun i H => ∃ xs ys, SqT K H a xs ∧ SqL K H b ys ∧ (i = xs.length ∨ (i < xs.length ∧ i = ys.length))⟩
/-- a zip's objects, laid one behind another from n on -/
def ZipSt (n a b : Nat) (i : Nat) (h : Heap) : Prop := IsZip h (n + 4) (n + 2) (n + 3) .none ∧ IsPair h (n + 2) (.ref n) (.ref (n + 1)) ∧ (∃ x y, IsPair h (n + 3) x y) ∧ h.IsTupleIter n a i ∧ h.IsListIter (n + 1) b i
abbrev zo1 (h : Heap) (a : Addr) : Heap := h.push { cls := .type "tuple_iterator", data := .fields #[.ref a, .int 0 0] }
abbrev zo2 (h : Heap) (a b : Addr) : Heap := (zo1 h a).push { cls := .type "list_iterator", data := .fields #[.ref b, .int 0 0] }
abbrev zo3 (h : Heap) (a b : Addr) : Heap := (zo2 h a b).push { cls := .type "tuple", data := .seq #[.ref h.objs.size, .ref (zo1 h a).objs.size] }
abbrev zo4 (h : Heap) (a b : Addr) : Heap := (zo3 h a b).push { cls := .type "tuple", data := .seq #[.none, .none] }
abbrev zo5 (h : Heap) (a b : Addr) : Heap := (zo4 h a b).push { cls := .type "zip", data := .fields #[.none, .bool false, .bool false, .ref (zo2 h a b).objs.size, .ref (zo3 h a b).objs.size] }
def iZip (K : PySem.W.Frag) (ta : TA) : TI := fun σ H R => ta σ H fun vs H1 => ∃ a b, vs = [.ref a, .ref b] ∧ (∃ xs, SqT K H1 a xs) ∧ (∃ ys, SqL K H1 b ys) ∧ R (Itz K a b) H1
end L2

namespace L2
open PySem PySem.Spec PyProof.Rows
variable {X : Cx}
/-! ### xs[::-1] of a list -/
def tRev (K : PySem.W.Frag) (te : TE) (tk : TO) : TE := fun σ H Q => te σ H fun x H1 => tk σ H1 fun st H2 => st = some (-1) ∧ ∃ a xs, x = .ref a ∧ SqL K H2 a xs ∧ ∀ p, H2 p = none → Q (.ref p) (upd H2 p (.lst xs.reverse))
/-! ### list(range(a, b)) -/
def tListRng (ta : TA) : TE := fun σ H Q => ta σ H fun vs H1 => ∃ i j : Int, vs = [.int i, .int j] ∧ (-(2 ^ 62) ≤ i ∧ i < 2 ^ 62 ∧ -(2 ^ 62) ≤ j ∧ j < 2 ^ 62) ∧ (j - i).toNat ≤ 1000 ∧ ∀ p, H1 p = none → Q (.ref p) (upd H1 p (.lst (rngV i (j - i).toNat)))
/-! ### list(d.values()) -/
def tListVals (td : TE) : TE := fun σ H Q => td σ H fun x H1 => ∃ a kvs, x = .ref a ∧ H1 a = some (.dK kvs) ∧ ∀ p, H1 p = none → Q (.ref p) (upd H1 p (.lst (kvs.map (·.2))))
end L2

namespace L2
open PySem PySem.Spec PyProof.Rows
/-- the i-th items of a tuple and of a list, in a new tuple -/
def Itz2 (K : PySem.W.Frag) (a b : Addr) : It :=
  ⟨fun i H => ∃ xs ys, SqT K H a xs ∧ SqT K H b ys ∧ i < xs.length ∧ i < ys.length,
   fun i H v H' => ∃ T, H T = none ∧ v = .ref T ∧ ∀ xs ys, SqT K H a xs → SqT K H b ys → ∃ x y, xs[i]? = some x ∧ ys[i]? = some y ∧ H' = upd H T (.tup [x, y]),
   fun i H => ∃ xs ys, SqT K H a xs ∧ SqT K H b ys ∧ (i = xs.length ∨ (i < xs.length ∧ i = ys.length))⟩
/-- a zip's objects, laid one behind another from n on -/
def ZipSt2 (n a b : Nat) (i : Nat) (h : Heap) : Prop := IsZip h (n + 4) (n + 2) (n + 3) .none ∧ IsPair h (n + 2) (.ref n) (.ref (n + 1)) ∧ (∃ x y, IsPair h (n + 3) x y) ∧ h.IsTupleIter n a i ∧ h.IsTupleIter (n + 1) b i
abbrev yo1 (h : Heap) (a : Addr) : Heap := h.push { cls := .type "tuple_iterator", data := .fields #[.ref a, .int 0 0] }
abbrev yo2 (h : Heap) (a b : Addr) : Heap := (yo1 h a).push { cls := .type "tuple_iterator", data := .fields #[.ref b, .int 0 0] }
abbrev yo3 (h : Heap) (a b : Addr) : Heap := (yo2 h a b).push { cls := .type "tuple", data := .seq #[.ref h.objs.size, .ref (yo1 h a).objs.size] }
abbrev yo4 (h : Heap) (a b : Addr) : Heap := (yo3 h a b).push { cls := .type "tuple", data := .seq #[.none, .none] }
abbrev yo5 (h : Heap) (a b : Addr) : Heap := (yo4 h a b).push { cls := .type "zip", data := .fields #[.none, .bool false, .bool false, .ref (yo2 h a b).objs.size, .ref (yo3 h a b).objs.size] }
def iZip2 (K : PySem.W.Frag) (ta : TA) : TI := fun σ H R => ta σ H fun vs H1 => ∃ a b, vs = [.ref a, .ref b] ∧ (∃ xs, SqT K H1 a xs) ∧ (∃ ys, SqT K H1 b ys) ∧ R (Itz2 K a b) H1
end L2

namespace L2
open PySem PySem.Spec PyProof.Rows
variable {X : Cx}
/-! ### list(d): the keys of a dict, texts -/
def rListD : List V → Hp → VK → Prop := fun xs H Q => ∃ a kvs, ∃ ss : List Str, xs = [.ref a] ∧ H a = some (.dK kvs) ∧ kvs.map (·.1) = ss.map Sum.inr ∧ ∀ p, H p = none → Q (.ref p) (upd H p (.lst (ss.map V.str)))
/-! ### list(range(a, b, c)) -/
def tListRng3 (ta : TA) : TE := fun σ H Q => ta σ H fun vs H1 => ∃ i j c : Int, vs = [.int i, .int j, .int c] ∧ (-(2 ^ 20) ≤ i ∧ i < 2 ^ 20 ∧ -(2 ^ 20) ≤ j ∧ j < 2 ^ 20 ∧ 1 ≤ c ∧ c < 2 ^ 20) ∧ (j - i) / c ≤ 900 ∧
  ∀ p (ms : List Int), (∀ x ∈ ms, i ≤ x ∧ x < j) → (ms.length : Int) ≤ max 0 ((j - i - 1) / c + 1) → H1 p = none → Q (.ref p) (upd H1 p (.lst (ms.map V.int)))
end L2

namespace L2
open PySem PySem.Spec PyProof.Rows
variable {X : Cx}
/-! ### a dict walked: it is held still from then on -/
/-- the keys of a dict that is held still -/
def Itd (d : Addr) (ob : Obj) (kvs : List (Key × V)) : It :=
  ⟨fun i H => H d = some (.frz ob (.dK kvs)) ∧ i < kvs.length, fun i H v H' => H' = H ∧ ∃ kv, kvs[i]? = some kv ∧ v = kV kv.1, fun i H => H d = some (.frz ob (.dK kvs)) ∧ kvs.length ≤ i⟩
def iDict (tl : TE) : TI := fun σ H R => tl σ H fun x H1 => ∃ d kvs, x = .ref d ∧ H1 d = some (.dK kvs) ∧ ∀ ob, R (Itd d ob kvs) (upd H1 d (.frz ob (.dK kvs)))
end L2

/-! ### a dict that was walked may change again; dict.update; min(one int, default=None) -/
namespace L2
open PySem PySem.Spec PyProof.Rows
def tThaw (H₀ : Hp) (te : TE) : TE := fun σ H Q => te σ H fun v H' => ∃ d ob kvs, H' d = some (.frz ob (.dK kvs)) ∧ (∀ o u, H₀ d ≠ some (.frz o u)) ∧ Q v (upd H' d (.dK kvs))
def rUpd : V → List V → Hp → VK → Prop := fun x vs H Q => ∃ d o kvs more, x = .ref d ∧ vs = [.ref o] ∧ d ≠ o ∧ H d = some (.dK kvs) ∧ H o = some (.dK more) ∧ kvs.length + more.length ≤ 1000 ∧ Q .non (upd H d (.dK (mergeK kvs more)))
section
variable {prog : Program} {w : World} {A : Around} {E : Value → Shared → Prop} {s : Shared}
end
end L2
namespace L2
open PySem PySem.Spec PyProof.Rows
def tMinD (te : TE) : TE := fun σ H Q => te σ H fun x H1 => ∃ l n, x = .ref l ∧ H1 l = some (.lst [.int n]) ∧ Q (.int n) H1
end L2

/-! ### methods, by their class; fields within a comprehension; a walked dict behind a statement -/
namespace L2
open PySem PySem.Spec PyProof.Rows
/-- a method of the class that may be called -/
structure MCal (P : Program) (w : World) (K : PySem.W.Frag) (mg : Str → Option Value) (base : Heap) (CX : CXT) (k : Nat) (C : Addr) (m : Str) (ps : List Str) (sp : Sp) : Prop where
  ex : ∃ (f : Addr) (fd : FuncData), Meth K C m f ∧ Binds K fd ps [] ∧ FnOk P w K mg base CX k f fd ps sp
section
variable {X : Cx} {CX : CXT} {k : Nat} {C : Addr} {m : Str} {ps : List Str} {sp : Sp} {E : XK} {o e : Expr} {es : List Expr} {ta : TE} {t : TA} {apos pos : Pos}
end
def tThawS (H₀ : Hp) (t : TS) : TS := fun D σ H => t { D with nx := fun σ' H' => ∃ d ob kvs, H' d = some (.frz ob (.dK kvs)) ∧ (∀ o u, H₀ d ≠ some (.frz o u)) ∧ D.nx σ' (upd H' d (.dK kvs)) } σ H
end L2

/-! ### sorted, by keys that all differ and may look at the heap -/
namespace L2.TS
open PySem PySem.Spec PyProof.Rows
abbrev Ky := List Nat
def ka (f : Value → Ky) (xs : Array Keyed) (i : Nat) : Ky := (xs[i]?.map fun p => f p.1).getD []
def Up (f : Value → Ky) (xs : Array Keyed) (n : Nat) : Prop := ∀ i j, i < j → j < n → ka f xs i < ka f xs j
def Dn (f : Value → Ky) (xs : Array Keyed) (n : Nat) : Prop := ∀ i j, i < j → j < n → ka f xs j < ka f xs i
def Df (f : Value → Ky) (xs : List Keyed) : Prop := xs.Pairwise fun p q => f p.1 ≠ f q.1
structure Sb (f : Value → Ky) (kd : SortKind) (o : Array Keyed) (st : SortSt) : Prop where
  pm : (arrOf st).Perm o
  kn : kindOf st = kd
  fl : failedOf st = none
  pe : pendingOf st = #[]
  df : Df f (arrOf st).toList
section
variable {prog : Program} {w : World} {A : Around} {E : Value → Shared → Prop} {s : Shared} {o : Array Keyed} {f : Value → Ky} {kd : SortKind}
/-- what a comparison of two of the values gives, at this heap -/
def Cmp (prog : Program) (w : World) (A : Around) (s : Shared) (kd : SortKind) (f : Value → Ky) (o : Array Keyed) : Prop :=
  ∀ (p q : Keyed) (E : Value → Shared → Prop) (Q : Bool → Shared → Prop), p ∈ o.toList → q ∈ o.toList → f p.1 ≠ f q.1 → Q (decide (f p.1 < f q.1)) s → wpAny (model prog w) A (keyLt' kd p.1 q.1) Q E s
end
end L2.TS

namespace L2.TS
open PySem PySem.Spec PyProof.Rows
section
variable {prog : Program} {w : World} {A : Around} {E : Value → Shared → Prop} {s : Shared} {o : Array Keyed} {f : Value → Ky} {kd : SortKind}
/-- where the k-th goes: l so that all before are less, all from it on are more -/
def At (f : Value → Ky) (xs : Array Keyed) (k l r : Nat) : Prop := (∀ i, i < l → ka f xs i < ka f xs k) ∧ ∀ i, r ≤ i → i < k → ka f xs k < ka f xs i
def Dne (f : Value → Ky) (o : Array Keyed) (st : SortSt) : Prop := (arrOf st).Perm o ∧ failedOf st = none ∧ (pendingOf st).size = 1 ∧ Up f (arrOf st) o.size
end
end L2.TS

/-! ### sorted of tuples whose first texts differ -/
namespace L2.TS
open PySem PySem.Spec PyProof.Rows
/-- a tuple whose first item is the text nm v -/
def Tp (h : Heap) (nm : Value → Str) (v : Value) : Prop := ∃ a o xs n t r, v = .ref a ∧ h.get? a = some o ∧ o.cls = .type "tuple" ∧ o.data = .seq xs n ∧ xs.toList = .str (nm v) t :: r
section
variable {prog : Program} {w : World} {A : Around} {E : Value → Shared → Prop} {s : Shared} {nm : Value → Str} {vs : List Value}
abbrev kf (nm : Value → Str) : Value → Ky := fun v => (nm v).cps.toList
end
end L2.TS
namespace L2
open PySem PySem.Spec PyProof.Rows
/-- the first text of the tuple there -/
def nmH (H : Hp) (a : Addr) : Str := match H a with
  | some (.tup (.str x :: _)) => x
  | _ => ⟨#[]⟩
def nmV (H : Hp) : Value → Str
  | .ref a => nmH H a
  | _ => ⟨#[]⟩
def adOf : Value → Addr
  | .ref a => a
  | _ => 0
def rSortT (K : PySem.W.Frag) : List V → Hp → VK → Prop := fun xs H Q => ∃ a as, xs = [.ref a] ∧ SqL K H a (as.map V.ref) ∧ as.length < 64 ∧ (∀ q ∈ as, ∃ x r, H q = some (.tup (.str x :: r))) ∧ (as.map (nmH H)).Nodup ∧
  ∀ (p : Addr) (as' : List Addr), as'.Perm as → (as'.Pairwise fun u v => (nmH H u).cps.toList < (nmH H v).cps.toList) → H p = none → Q (.ref p) (upd H p (.lst (as'.map V.ref)))
end L2

/-! ### sorted(xs, key=lambda x: x[k]), a def's table of codes tracked -/
namespace L2.LM
open PySem PySem.Spec PySem.Calls PyProof.Rows PySem.W
abbrev lbody (x : Str) (k : Int) (kd : Nat) (p1 p2 p3 : Pos) : Expr := .Subscript (.Name x p1) (.Constant (.int k) kd p2) p3
section
variable {prog : Program} {w : World} {A : Around} {E : Value → Shared → Prop} {s : Shared} {f c' q : Addr} {name qual x : Str} {params : Arguments} {scope : Scope} {pm ctv : Value} {k n : Int} {kd j : Nat} {p1 p2 p3 : Pos} {items : Array Value} {t : Tok}
end
end L2.LM
namespace L2
open PySem PySem.Spec PySem.Calls PyProof.Rows
section
variable {X : Cx} {pins : List (Addr × Obj)} {σ : St} {H : Hp} {s : Shared}
/-- a table grew, its new code is known to the object -/
theorem Inv.lamNew {P c' : Addr} {ps more : Array Value} {oc : Obj} {h' : Heap} {tk : Nat} (I : Inv X pins σ H s) (hP : H P = some (.tbl ps)) (hx : Heap.ExtBut P s.heap h') (hc : s.heap.objs.size ≤ c') (hoc : h'.get? c' = some oc)
    (htb : h'.get? P = some (PySem.W.tabObj (ps ++ more))) : Inv X pins σ (upd (upd H P (.tbl (ps ++ more))) c' (.frz oc (.own 0))) { s with heap := h', toks := tk } := by
  have hn : H c' = none := I.hok.fresh hc
  have nP : ∀ b u, H b = some u → (∀ ps, u ≠ .tbl ps) → b ≠ P := fun b u e n z => by rw [z, hP] at e; cases e; exact n _ rfl
  have nP0 : ∀ b, H b = none → b ≠ P := fun b e z => by rw [z, hP] at e; cases e
  have nc : ∀ b u, H b = some u → b ≠ c' := fun b u e => ne_of_none e hn
  have up : ∀ b u, H b = some u → (∀ ps, u ≠ .tbl ps) → upd (upd H P (.tbl (ps ++ more))) c' (.frz oc (.own 0)) b = some u := fun b u e n => by rw [upd_ne (nc b u e), upd_ne (nP b u e n)]; exact e
  refine I.step (g' := s.gens) (d' := s.drawn) (ch := []) (fun _ z => nomatch z) (fun b o _ _ _ e n => hx b o (nP0 b n) e) (fun b o _ _ _ e n => ⟨o.slots, hx b o (nP0 b n) e⟩)
    (fun b o _ e n => by rw [upd_ne (Nat.ne_of_lt (Nat.lt_of_lt_of_le (Heap.lt_size e) hc)), upd_ne (nP0 b n)]; exact n) (fun b o _ e => ?_) (fun b xs e => up b _ e fun _ z => by cases z) (fun b o u e => up b _ e fun _ z => by cases z) (fun b qs e => ?_)
    (fun m hm => ?_) (fun b u e => ?_) I.bare
  · by_cases hb : b = P
    · subst hb; exact ⟨_, htb⟩
    · exact ⟨o, hx b o hb e⟩
  · by_cases hb : b = P
    · subst hb
      rw [hP] at e; cases e
      exact ⟨more, by rw [upd_ne (nc b _ hP), upd_same]⟩
    · exact ⟨#[], by rw [upd_ne (nc b _ e), upd_ne hb, e]; simp⟩
  · obtain ⟨o, es, ep, ho, r⟩ := hm
    exact ⟨o, es, ep, hx _ o (nP0 _ I.free) ho, r⟩
  · by_cases hb : b = c'
    · subst hb
      rw [upd_same] at e; cases e
      exact ⟨hoc, oc, hoc⟩
    · rw [upd_ne hb] at e
      by_cases hb2 : b = P
      · subst hb2
        rw [upd_same] at e; cases e
        exact htb
      · rw [upd_ne hb2] at e
        refine (I.hok b u e).stay (fun d v hd q => hx d v ?_ q) (fun d q => up d _ q fun _ z => by cases z) fun d xs q => up d _ q fun _ z => by cases z
        rcases hd with z | z
        · rw [z]; exact hb2
        · exact nP d _ z fun _ y => by cases y
end
/-- the module's code of a def whose table is tracked at P -/
structure LamB (mg : Str → Option Value) (base : Heap) (c P : Addr) : Prop where
  code : PySem.W.CodeHd base c P
  gne : mainGlobals ≠ P
  bm : base.BuiltinsAt mg P
/-- the table of a def with one lambda: empty, or it has the lambda's code -/
def LamT (H : Hp) (P : Addr) (qual : Str) (pos : Pos) : Prop := H P = some (.tbl #[]) ∨ ∃ c' oc vs t u, H P = some (.tbl #[rawInt pos.line, rawInt pos.col, .ref c']) ∧ H c' = some (.frz oc u) ∧ oc.data = .fields vs ∧ vs[1]? = some (.str qual t)
/-- all but the table stayed -/
def SameB (P : Addr) (H H' : Hp) : Prop := ∀ b o, b ≠ P → H b = some o → H' b = some o
theorem SameB.trans {P : Addr} {H H1 H2 : Hp} (a : SameB P H H1) (b : SameB P H1 H2) : SameB P H H2 := fun c o n h => b c o n (a c o n h)
theorem Same.b {P : Addr} {H H' : Hp} (s : Same H H') : SameB P H H' := fun b o _ h => s b o h
theorem LamT.keep {H H' : Hp} {P : Addr} {qual : Str} {pos : Pos} (h : LamT H P qual pos) (s : Same H H') : LamT H' P qual pos := by
  rcases h with h | ⟨c', oc, vs, t, u, h1, h2, h3, h4⟩
  · exact .inl (s _ _ h)
  · exact .inr ⟨c', oc, vs, t, u, s _ _ h1, s _ _ h2, h3, h4⟩
theorem SameB.tup {P : Addr} {H H' : Hp} {a : Addr} {xs : List V} {qual : Str} {pos : Pos} (s : SameB P H H') (l : LamT H P qual pos) (h : H a = some (.tup xs)) : H' a = some (.tup xs) := s _ _ (fun e => by
  rcases l with l | ⟨c', oc, vs, t, u, l, _⟩ <;> rw [e, l] at h <;> cases h) h
theorem SameB.lst {P : Addr} {H H' : Hp} {a : Addr} {xs : List V} {qual : Str} {pos : Pos} (s : SameB P H H') (l : LamT H P qual pos) (h : H a = some (.lst xs)) : H' a = some (.lst xs) := s _ _ (fun e => by
  rcases l with l | ⟨c', oc, vs, t, u, l, _⟩ <;> rw [e, l] at h <;> cases h) h
theorem SameB.frz {P : Addr} {H H' : Hp} {a : Addr} {o : Obj} {w : HO} {qual : Str} {pos : Pos} (s : SameB P H H') (l : LamT H P qual pos) (h : H a = some (.frz o w)) : H' a = some (.frz o w) := s _ _ (fun e => by
  rcases l with l | ⟨c', oc, vs, t, u, l, _⟩ <;> rw [e, l] at h <;> cases h) h
end L2
namespace L2
open PySem PySem.Spec PySem.Calls PyProof.Rows
/-- sorted(xs, key=lambda x: x[k]): key tells the item -/
def tSortK (K : PySem.W.Frag) (P : Addr) (qual : Str) (lpos : Pos) (k : Int) (te : TE) : TE := fun σ H Q => te σ H fun x H1 => ∃ (a : Addr) (as : List Addr) (key : Addr → Int), x = .ref a ∧ SqL K H1 a (as.map V.ref) ∧ as.length < 64 ∧ LamT H1 P qual lpos ∧
  (∀ q ∈ as, ∃ xs, H1 q = some (.tup xs) ∧ atI xs k = some (.int (key q))) ∧
  ∀ (p : Addr) (as' : List Addr) (H2 : Hp), as'.Perm as → (as'.Pairwise fun u v => key u ≤ key v) → SameB P H1 H2 → LamT H2 P qual lpos → H1 p = none → H2 p = some (.lst (as'.map V.ref)) → Q (.ref p) H2
end L2

/-! ### the head of a law one of whose defs makes a lambda: the table of its codes is tracked from the start -/
namespace L2
open PySem PySem.Spec PySem.Calls PyProof.Rows
/-- a def whose code is at c -/
structure FunC (K : PySem.W.Frag) (x qual : Str) (st : Stmt) (f : Addr) (fd : FuncData) (c : Addr) : Prop where
  ex : ∃ (oc : Value) (od : Option Addr) (kV doc pm : Value) (an : Option Addr) (ct : Value) (osl : Array (Option Value)),
    fd = PySem.W.fnOf x qual (defArgs st) (defBody st) (defScope st) .none kV doc pm an (.ref c) ct ∧ K.lookup f = some ⟨oc, od, .func fd, osl⟩ ∧ PySem.W.codeIn K (.ref c) qual = true
  kp : PySem.W.keepIn K (.ref f) = true
section
variable {P : Program} {w : World} {K : PySem.W.Frag} {mg : Str → Option Value} {base : Heap}
theorem FunC.ok {x qual : Str} {st : Stmt} {f c : Addr} {fd : FuncData} {N ps : List Str} {k : Nat} {sp : Sp} (F : FunC K x qual st f fd c) (S : FnScope N ps (defScope st)) (len : ∀ vs H Q E, sp vs H Q E → vs.length = ps.length)
    (hbody : ∀ (A : Around) (outer : List Env) (s : Shared) (H : Hp) (vs : List V) (Q : VK) (E : XK), Room k (A.deeper (envOfC qual (defScope st) s.heap.objs.size f (.ref c))) → sp vs H Q E →
      ∃ t, PSs (cxOf CX0 P w K mg base N qual (defScope st) f (.ref c) A outer s H E).nox (defBody st) t ∧ t { nx := fun _ H' => Q .non H', rt := Q } (start N vs) H) : FnOk P w K mg base CX0 (k + 1) f fd ps sp := by
  obtain ⟨oc, od, kV, doc, pm, an, ct, osl, rfl, lk, hcd⟩ := F.ex
  refine fn_of lk hcd S len fun A outer s H vs Q E hr hsp => ?_
  obtain ⟨t, h, q⟩ := hbody A outer s H vs Q E hr hsp
  exact ⟨t, h.nox, q⟩
end
end L2

/-! ### objects lent to a callee, and taken back: cells -/
namespace L2
open PySem PySem.Spec PySem.Calls PyProof.Rows
/-- without what lies at cs -/
def dropA (cs : List Addr) (H : Hp) : Hp := fun b => if b ∈ cs then none else H b
/-- and what lies at cs held still -/
def trkA (cs : List (Addr × Obj)) (H : Hp) : Hp := fun b => match cs.lookup b with | some o => some (.frz o (.own 0)) | none => H b
theorem dropA_in {cs : List Addr} {H : Hp} {b : Addr} (h : b ∈ cs) : dropA cs H b = none := if_pos h
theorem dropA_out {cs : List Addr} {H : Hp} {b : Addr} (h : b ∉ cs) : dropA cs H b = H b := if_neg h
theorem trkA_in {cs : List (Addr × Obj)} {H : Hp} {b : Addr} {o : Obj} (h : cs.lookup b = some o) : trkA cs H b = some (.frz o (.own 0)) := by unfold trkA; rw [h]
theorem trkA_out {cs : List (Addr × Obj)} {H : Hp} {b : Addr} (h : cs.lookup b = none) : trkA cs H b = H b := by unfold trkA; rw [h]
theorem lk_mem {cs : List (Addr × Obj)} {b : Addr} : b ∈ cs.map (·.1) ↔ ∃ o, cs.lookup b = some o := by
  induction cs with
  | nil => simp
  | cons p r ih =>
    rw [List.map_cons, List.mem_cons, List.lookup_cons]
    by_cases e : b = p.1
    · rw [e]; simp
    · rw [beq_false_of_ne e]; simpa [e] using ih
theorem lk_none {cs : List (Addr × Obj)} {b : Addr} (h : b ∉ cs.map (·.1)) : cs.lookup b = none := by
  cases q : cs.lookup b with
  | none => rfl
  | some o => exact absurd (lk_mem.mpr ⟨o, q⟩) h
section
variable {P : Program} {w : World} {H H2 : Hp} {h h' : Heap} {fs : List Addr} {cs : List (Addr × Obj)}
theorem HOk.trk (ok : HOk P w H h) (hc : ∀ c o, cs.lookup c = some o → h.get? c = some o ∧ H c = none) : HOk P w (trkA cs H) h := fun b u e => by
  cases q : cs.lookup b with
  | some o =>
    rw [trkA_in q] at e
    cases e
    exact ⟨(hc b o q).1, o, (hc b o q).1⟩
  | none =>
    rw [trkA_out q] at e
    have out : ∀ c v, H c = some v → trkA cs H c = some v := fun c v z => by
      rw [trkA_out (lk_none fun m => by
        obtain ⟨o, ho⟩ := lk_mem.mp m
        rw [(hc c o ho).2] at z; cases z)]
      exact z
    exact (ok b u e).stay (fun _ _ _ z => z) (fun c z => out c _ z) fun c xs z => out c _ z
theorem HOk.drp (ok : HOk P w H h) (hc : ∀ c ∈ cs.map (·.1), ∃ o u, H c = some (.frz o u)) : HOk P w (dropA (cs.map (·.1)) H) h := fun b u e => by
  have nb : b ∉ cs.map (·.1) := fun m => by rw [dropA_in m] at e; cases e
  rw [dropA_out nb] at e
  have out : ∀ c v, H c = some v → (∀ o u, v ≠ .frz o u) → dropA (cs.map (·.1)) H c = some v := fun c v z n => by
    rw [dropA_out fun m => by
      obtain ⟨o, u, ho⟩ := hc c m
      rw [ho] at z; cases z; exact n _ _ rfl]
    exact z
  exact (ok b u e).stay (fun _ _ _ z => z) (fun c z => out c _ z fun _ _ y => by cases y) fun c xs z => out c _ z fun _ _ y => by cases y
/-- lent and taken back -/
theorem Un.lent (u : Un fs [] (trkA cs H) H2 h h') (ok : HOk P w H2 h') (hc : ∀ c o, cs.lookup c = some o → h.get? c = some o ∧ H c = none ∧ c ∉ fs) : Un fs [] H (dropA (cs.map (·.1)) H2) h h' ∧ HOk P w (dropA (cs.map (·.1)) H2) h' := by
  have nin : ∀ c v, H c = some v → c ∉ cs.map (·.1) := fun c v z m => by
    obtain ⟨o, ho⟩ := lk_mem.mp m
    rw [(hc c o ho).2.1] at z; cases z
  have up : ∀ c v, H c = some v → trkA cs H c = some v := fun c v z => by rw [trkA_out (lk_none (nin c v z))]; exact z
  refine ⟨⟨fun b o e n hb hx => ?_, fun b o e n hb hx => ?_, fun b o e n hx => ?_, fun b o e hx => u.there b o e hx, fun b xs e => ?_, fun b o v e => ?_, fun b ps e => ?_⟩, ok.drp fun c m => ?_⟩
  · cases q : cs.lookup b with
    | some o' =>
      obtain ⟨h1, h2, _⟩ := hc b o' q
      rw [e] at h1; cases h1
      exact (ok b _ (u.frzs b _ _ (trkA_in q))).1
    | none => exact u.keep b o e (by rw [trkA_out q]; exact n) hb hx
  · cases q : cs.lookup b with
    | some o' => exact absurd hb (hc b o' q).2.2
    | none => exact u.slot b o e (by rw [trkA_out q]; exact n) hb hx
  · by_cases m : b ∈ cs.map (·.1)
    · exact dropA_in m
    · rw [dropA_out m]
      exact u.free b o e (by rw [trkA_out (lk_none m)]; exact n) hx
  · rw [dropA_out (nin b _ e)]; exact u.tups b xs (up _ _ e)
  · rw [dropA_out (nin b _ e)]; exact u.frzs b o v (up _ _ e)
  · obtain ⟨more, hm⟩ := u.tbls b ps (up _ _ e)
    exact ⟨more, by rw [dropA_out (nin b _ e)]; exact hm⟩
  · obtain ⟨o, ho⟩ := lk_mem.mp m
    exact ⟨o, _, u.frzs c _ _ (trkA_in ho)⟩
/-- taken for a while and held still again -/
theorem Un.took (u : Un fs [] (dropA (cs.map (·.1)) H) H2 h h') (ok0 : HOk P w H h) (ok : HOk P w H2 h') (hc : ∀ c o, cs.lookup c = some o → H c = some (.frz o (.own 0)) ∧ c ∉ fs) : Un fs [] H (trkA cs H2) h h' ∧ HOk P w (trkA cs H2) h' := by
  have at0 : ∀ c o, cs.lookup c = some o → h.get? c = some o := fun c o q => (ok0 c _ (hc c o q).1).1
  have dn : ∀ c o, cs.lookup c = some o → dropA (cs.map (·.1)) H c = none := fun c o q => dropA_in (lk_mem.mpr ⟨o, q⟩)
  have dw : ∀ c, cs.lookup c = none → dropA (cs.map (·.1)) H c = H c := fun c q => dropA_out fun m => by
    obtain ⟨o, ho⟩ := lk_mem.mp m
    rw [q] at ho; cases ho
  refine ⟨⟨fun b o e n hb hx => ?_, fun b o e n hb hx => ?_, fun b o e n hx => ?_, fun b o e hx => u.there b o e hx, fun b xs e => ?_, fun b o v e => ?_, fun b ps e => ?_⟩, ok.trk fun c o q => ⟨u.keep c o (at0 c o q) (dn c o q) (hc c o q).2 (by simp), u.free c o (at0 c o q) (dn c o q) (by simp)⟩⟩
  · cases q : cs.lookup b with
    | some o' => rw [(hc b o' q).1] at n; cases n
    | none => exact u.keep b o e (by rw [dw b q]; exact n) hb hx
  · cases q : cs.lookup b with
    | some o' => rw [(hc b o' q).1] at n; cases n
    | none => exact u.slot b o e (by rw [dw b q]; exact n) hb hx
  · cases q : cs.lookup b with
    | some o' => rw [(hc b o' q).1] at n; cases n
    | none => rw [trkA_out q]; exact u.free b o e (by rw [dw b q]; exact n) hx
  · cases q : cs.lookup b with
    | some o' => rw [(hc b o' q).1] at e; cases e
    | none => rw [trkA_out q]; exact u.tups b xs (by rw [dw b q]; exact e)
  · cases q : cs.lookup b with
    | some o' =>
      rw [(hc b o' q).1] at e
      cases e
      exact trkA_in q
    | none => rw [trkA_out q]; exact u.frzs b o v (by rw [dw b q]; exact e)
  · cases q : cs.lookup b with
    | some o' => rw [(hc b o' q).1] at e; cases e
    | none =>
      obtain ⟨more, hm⟩ := u.tbls b ps (by rw [dw b q]; exact e)
      exact ⟨more, by rw [trkA_out q]; exact hm⟩
end
/-- a value that can be called: what a call of it does, now and later -/
structure Clo (P : Program) (w : World) (K : PySem.W.Frag) (mg : Str → Option Value) (base : Heap) (CX : CXT) (k : Nat) (H : Hp) (f : Addr) (sp : Sp) : Prop where
  fn : ∃ oc od fd sl u, H f = some (.frz ⟨oc, od, .func fd, sl⟩ u)
  run : ∀ H', Same H H' → ∀ (A : Around) (outer : List Env) (s : Shared) (us : List Value) (vs : List V) (Q : VK) (E : XK), Room k A → Env0 P w K mg base A outer s H' → Vals vs us → sp vs H' Q E →
    codeAny (model P w) A (.call (.ref f) ⟨us, []⟩) (CR CX outer P w H' s Q E) s
theorem Clo.keep {P : Program} {w : World} {K : PySem.W.Frag} {mg : Str → Option Value} {base : Heap} {CX : CXT} {k : Nat} {H H' : Hp} {f : Addr} {sp : Sp} (c : Clo P w K mg base CX k H f sp) (s : Same H H') : Clo P w K mg base CX k H' f sp :=
  ⟨let ⟨oc, od, fd, sl, u, e⟩ := c.fn; ⟨oc, od, fd, sl, u, s _ _ e⟩, fun H2 s2 => c.run H2 (s.trans s2)⟩
/-- f(e, ..), f a name of the def's own whose value can be called -/
def tClo (P : Program) (w : World) (K : PySem.W.Frag) (mg : Str → Option Value) (base : Heap) (CX : CXT) (k : Nat) (E : XK) (i : Nat) (t : TA) : TE := fun σ H Q => ∃ f, σ[i]? = some (some (.ref f)) ∧ (∃ oc od fd sl u, H f = some (.frz ⟨oc, od, .func fd, sl⟩ u)) ∧ t σ H fun vs H1 => ∃ sp, Clo P w K mg base CX k H1 f sp ∧ sp vs H1 Q E
theorem pe_clo {X : Cx} {CX : CXT} {k i : Nat} {E : XK} {x : Str} {e : Expr} {es : List Expr} {t : TA} {p pos : Pos} (hr : Room k X.A) (hx : Passes CX X E) (hN : X.N[i]? = some x) (hv : X.env.scope.names.lookup x = some .local) (ha : PA X (e :: es) t)
    (he : starEach (e :: es) X.env = (false, eval e X.env) :: starEach es X.env := by rfl) (hpl : (backTo pos (starEach es X.env)).any (·.1) = false := by rfl)
    (hd : (x == ("__debug__" : Str)) = false := by decide) (hcd : (x == ("__classdict__" : Str)) = false := by decide) : PE X (.Call (.Name x p) (e :: es) [] pos) (tClo X.prog X.w X.K X.mg X.base CX k E i t) := by
  intro pins s σ H Q I h
  obtain ⟨f, hf, ⟨oc0, od0, fd0, sl0, u0, ef0⟩, h⟩ := h
  refine wpAny_Call_Name_kw (wpAny_mono (pe_var (pos := p) hN (.inl hv) hd hcd pins s σ H (fun v H' => v = .ref f ∧ H' = H) I ⟨_, hf, rfl, rfl⟩) (fun u s1 ⟨v, H1, I1, rv, ev, eH⟩ => ?_) fun _ _ z => z)
  subst ev eH
  obtain rfl : u = Value.ref f := rv
  refine PySem.W.callWith_F ⟨oc0, od0, fd0, sl0, (I1.hok _ _ ef0).1⟩ (thn (ha pos pins s1 σ H1 _ I1 h) fun us s2 ⟨vs, H2, I2, r2, sp, c, q⟩ => ?_) he hpl
  obtain ⟨oc, od, fd, sl, uu, ef⟩ := c.fn
  refine ⟨⟨oc, od, fd, sl, (I2.hok _ _ ef).1⟩, ?_⟩
  show wpAny _ _ (call (.ref f) us) _ _ _
  refine wpAny_call (codeAny_mono (c.run H2 (Same.refl _) X.A X.stack s2 us vs Q E hr I2.env0 r2 q) fun r s' hq => ?_)
  cases r with
  | error e => exact hx pins σ H2 s2 e s' I2 hq
  | ok fl =>
    cases fl with
    | ret u => exact I2.after hq
    | next => exact False.elim hq
    | brk => exact False.elim hq
    | cont => exact False.elim hq
end L2

/-! ### defs within defs: functions of one parameter that see names of the def around them -/
namespace L2
open PySem PySem.Spec PySem.Calls PyProof.Rows
/-- a code object of that name -/
def CodeA (H : Hp) (c : Addr) (qual : Str) : Prop := ∃ oc vs t u, H c = some (.frz oc u) ∧ oc.data = .fields vs ∧ vs[1]? = some (.str qual t)
theorem CodeA.keep {H H' : Hp} {c : Addr} {qual : Str} (h : CodeA H c qual) (s : ∀ o u, H c = some (.frz o u) → H' c = some (.frz o u)) : CodeA H' c qual := let ⟨oc, vs, t, u, e, r⟩ := h; ⟨oc, vs, t, u, s _ _ e, r⟩
/-- a function made by a def within a def -/
def FnN (H : Hp) (f : Addr) (name qual : Str) (params : Arguments) (body : List Stmt) (scope : Scope) (cl : List (Str × Addr)) : Prop :=
  ∃ doc pm c' ctv, H f = some (.frz (PySem.W.fnMade name qual params body scope cl doc pm c' ctv) (.own 0)) ∧ CodeA H c' qual
/-- the statement def: the table of the codes P, what is in it -/
def sDef (P : Addr) (name qual : Str) (params : Arguments) (body : List Stmt) (scope : Scope) (cl : List (Str × Addr)) (pos : Pos) (i : Nat) : TS := fun D σ H => ∃ ps, H P = some (.tbl ps) ∧ TriplesOk ps.toList ∧
  ((codeAmong pos ps.toList = none ∧ ∀ f c' H', SameB P H H' → H f = none → H c' = none → H' P = some (.tbl (ps ++ #[rawInt pos.line, rawInt pos.col, .ref c'])) → CodeA H' c' qual → FnN H' f name qual params body scope cl → D.nx (σ.set i (some (.ref f))) H') ∨
   ∃ c', codeAmong pos ps.toList = some (.ref c') ∧ CodeA H c' qual ∧ ∀ f H', Same H H' → H f = none → FnN H' f name qual params body scope cl → D.nx (σ.set i (some (.ref f))) H')
section
variable {X : Cx}
theorem ps_def {name qual : Str} {params : Arguments} {body : List Stmt} {scope : Scope} {cl : List (Str × Addr)} {pos : Pos} {i : Nat} {c P : Addr} (hN : X.N.Nodup) (hi : X.N[i]? = some name) (hk : X.env.scope.names.lookup name = some .local) (B : LamB X.mg X.base c P)
    (hcode : X.env.code = .ref c) (hq : qualnameIn X.env name name = qual) (hcl : closureFor scope X.env = pure cl) (hd0 : params.defaults = []) (hk0 : params.kw_defaults = []) (ha : annTrees params none X.env = []) :
    PS X (.FunctionDef name params body [] none [] scope none name pos) (sDef P name qual params body scope cl pos i) := by
  intro pins s σ H D I h
  obtain ⟨ps, hP, hok, h⟩ := h
  have bmS : s.heap.BuiltinsAt X.mg P := by
    obtain ⟨bm, o, a1, a2, a3, a4, a5, a6⟩ := B.bm
    exact ⟨bm, o, a1, a2, a3, a4, I.bk _ _ a5, a6⟩
  have hg := I.mod.glob.keeps I.bk
  have hPs : s.heap.get? P = some (PySem.W.tabObj ps) := I.hok _ _ hP
  refine PySem.W.nestDef_K hd0 hk0 ha ?_
  rw [hq]
  -- the name is set
  have fin : ∀ (f : Addr) (H' : Hp) (s' : Shared), Inv X pins σ H' s' → D.nx (σ.set i (some (.ref f))) H' → wpAny (model X.prog X.w) X.A (storeName X.env name (.ref f)) (fun _ s'' => SP X pins D .next s'') X.xe s' := fun f H' s' J q =>
    store_ok2 J (v := .ref f) hN hi (.inl hk) rfl (fun s'' J' _ => ⟨_, H', J', q⟩) (.inr hk)
  -- the function's object is laid
  have lay : ∀ (h' : Heap) (tk : Nat) (H1 : Hp) (doc pm ctv : Value) (c' : Addr), Inv X pins σ H1 { s with heap := h', toks := tk } → CodeA H1 c' qual →
      ∃ H2, Inv X pins σ H2 { s with heap := h'.push (PySem.W.fnMade name qual params body scope cl doc pm c' ctv), toks := tk } ∧ Same H1 H2 ∧ H1 h'.objs.size = none ∧ FnN H2 h'.objs.size name qual params body scope cl := fun h' tk H1 doc pm ctv c' J hc => by
    have hn : H1 h'.objs.size = none := J.hok.fresh (Nat.le_refl _)
    have J2 := J.laid (a := h'.objs.size) (o := .frz (PySem.W.fnMade name qual params body scope cl doc pm c' ctv) (.own 0)) (h' := h'.push (PySem.W.fnMade name qual params body scope cl doc pm c' ctv)) (t' := tk) (fun _ _ q => Heap.get?_push_of_some _ q) (Nat.le_refl _) ⟨Heap.get?_push_size _ rfl, _, Heap.get?_push_size _ rfl⟩
    have sm := Same.upd (o := .frz (PySem.W.fnMade name qual params body scope cl doc pm c' ctv) (.own 0)) hn
    exact ⟨_, J2, sm, hn, doc, pm, c', ctv, upd_same, hc.keep fun o u e => sm _ _ e⟩
  rcases h with ⟨hnf, h⟩ | ⟨c', hf, hc', h⟩
  · refine PySem.W.makeFunction_K (mg := X.mg) hcl I.ok.glob hg hcode (B.code.keeps I.bk) hPs hok hnf B.gne bmS fun c' ctv doc h' tk hx hge hlt hrec htb => ?_
    obtain ⟨c2, oc, cvs, t, e2, hoc, hdv, hv⟩ := hrec
    cases e2
    have hcn : H c' = none := I.hok.fresh hge
    have J := I.lamNew (tk := tk) hP hx hge hoc htb
    have hcP : c' ≠ P := fun z => by rw [z, hP] at hcn; cases hcn
    have ca : CodeA (upd (upd H P (.tbl (ps ++ #[rawInt pos.line, rawInt pos.col, .ref c']))) c' (.frz oc (.own 0))) c' qual := ⟨oc, cvs, t, _, upd_same, hdv, hv⟩
    obtain ⟨H2, J2, sm, hn, fn⟩ := lay h' tk _ doc ((X.mg "__name__").getD .none) ctv c' J ca
    refine fin _ H2 _ J2 (h _ c' H2 (fun b o n e => sm _ _ ?_) ?_ hcn (sm _ _ ?_) (ca.keep fun o u e => sm _ _ e) fn)
    · rw [upd_ne (ne_of_none e hcn), upd_ne n]; exact e
    · by_cases z : h'.objs.size = c'
      · rw [z]; exact hcn
      · rw [upd_ne z] at hn
        by_cases z2 : h'.objs.size = P
        · rw [z2, upd_same] at hn; cases hn
        · rw [upd_ne z2] at hn; exact hn
    · rw [upd_ne (Ne.symm hcP), upd_same]
  · refine PySem.W.makeFunction_hit (mg := X.mg) hcl I.ok.glob hg hcode (B.code.keeps I.bk) hPs hok hf bmS fun ctv doc h' tk hk' hsz => ?_
    obtain ⟨H2, J2, sm, hn, fn⟩ := lay h' tk H doc ((X.mg "__name__").getD .none) ctv c' (I.kept (t' := tk) hk') hc'
    exact fin _ H2 _ J2 (h _ H2 sm hn fn)
end
end L2

/-! ### what a call of a function does that was made by a def within a def -/
namespace L2
open PySem PySem.Spec PySem.Calls PyProof.Rows
/-- the context of its body -/
def nsX (P : Program) (w : World) (K : PySem.W.Frag) (mg : Str → Option Value) (base : Heap) (N : List Str) (qual : Str) (scope : Scope) (cl : List (Str × Addr)) (f : Addr) (cd : Value) (A : Around) (outer : List Env) (s : Shared) (H : Hp) : Cx where
  prog := P
  w := w
  K := K
  mg := mg
  base := base
  A := A.deeper (PySem.W.envX qual scope s.heap.objs.size f cd cl)
  N := N
  s₀ := s
  H₀ := H
  env := PySem.W.envX qual scope s.heap.objs.size f cd cl
  outer := outer
  stack := PySem.W.envX qual scope s.heap.objs.size f cd cl :: outer
  ex := []
  fn := fun _ => false
  calm := true
  pn := []
  xe := fun _ _ => False
/-- one parameter, the names of the closure -/
structure NsS (x : Str) (cl : List (Str × Addr)) (scope : Scope) : Prop where
  kind : scope.kind = .function
  co : scope.isCoroutine = false
  gen : scope.isGenerator = false
  cell : ∀ z ∈ scope.names, z.2 ≠ .cell
  loc : scope.names.lookup x = some .local
  fre : ∀ y ∈ cl.map (·.1), scope.names.lookup y = some .free
  only : ∀ z, scope.names.lookup z = some .free → z ∈ cl.map (·.1)
/-- the cells: their objects, what they hold -/
inductive Cells (H : Hp) : List (Str × Addr) → List (Addr × Obj) → List V → Prop
  | nil : Cells H [] [] []
  | cons {y : Str} {c : Addr} {o : Obj} {v : V} {u : Value} {cl : List (Str × Addr)} {cs : List (Addr × Obj)} {ws : List V} : H c = some (.frz o (.own 0)) → o.data = .cell (some u) → RelV v u → Cells H cl cs ws → Cells H ((y, c) :: cl) ((c, o) :: cs) (v :: ws)
theorem Cells.keep {H H' : Hp} {cl : List (Str × Addr)} {cs : List (Addr × Obj)} {ws : List V} (h : Cells H cl cs ws) (s : Same H H') : Cells H' cl cs ws := by
  induction h with
  | nil => exact .nil
  | cons a b c _ ih => exact .cons (s _ _ a) b c ih
theorem Cells.len {H : Hp} {cl : List (Str × Addr)} {cs : List (Addr × Obj)} {ws : List V} (h : Cells H cl cs ws) : ws.length = cl.length := by
  induction h with
  | nil => rfl
  | cons _ _ _ _ ih => rw [List.length_cons, List.length_cons, ih]
theorem Cells.frz {H : Hp} {cl : List (Str × Addr)} {cs : List (Addr × Obj)} {ws : List V} (h : Cells H cl cs ws) : ∀ c o, cs.lookup c = some o → H c = some (.frz o (.own 0)) := by
  induction h with
  | nil => intro c o e; cases e
  | @cons y c o v u cl cs ws a b r _ ih =>
    intro d o' e
    rw [List.lookup_cons] at e
    by_cases z : d = c
    · subst z
      simp at e
      rw [← e]; exact a
    · rw [beq_false_of_ne z] at e
      exact ih d o' e
theorem Cells.lk {H : Hp} {cl : List (Str × Addr)} {cs : List (Addr × Obj)} {ws : List V} (h : Cells H cl cs ws) : ∀ y c, cl.lookup y = some c → c ∈ cs.map (·.1) := by
  induction h with
  | nil => intro c o e; cases e
  | @cons y c o v u cl cs ws a b r _ ih =>
    intro z d e
    rw [List.lookup_cons] at e
    by_cases q : z = y
    · subst q
      simp at e
      rw [← e]; exact List.mem_cons_self ..
    · rw [beq_false_of_ne q] at e
      exact List.mem_cons_of_mem _ (ih z d e)
/-- what a name of the closure holds -/
theorem Cells.at {P : Program} {w : World} {H : Hp} {h : Heap} {cl : List (Str × Addr)} {cs : List (Addr × Obj)} {ws : List V} (ok : HOk P w H h) (q : Cells H cl cs ws) (nd : (cl.map (·.1)).Nodup) : ∀ (i : Nat) y v, (cl.map (·.1))[i]? = some y → ws[i]? = some v → ∃ u c, RelV v u ∧ cl.lookup y = some c ∧ h.IsCell c (some u) := by
  induction q with
  | nil => intro i y v e; simp at e
  | @cons y c o v u cl cs ws a b r t ih =>
    intro i z v' e e2
    cases i with
    | zero =>
      simp at e e2
      subst e e2
      exact ⟨u, c, r, by simp, o, (ok _ _ a).1, b⟩
    | succ i =>
      rw [List.map_cons, List.nodup_cons] at nd
      have e' : (cl.map (·.1))[i]? = some z := by simpa using e
      have e2' : ws[i]? = some v' := by simpa using e2
      obtain ⟨u', c', h1, h2, h3⟩ := ih nd.2 i z v' e' e2'
      refine ⟨u', c', h1, ?_, h3⟩
      rw [List.lookup_cons, beq_false_of_ne (fun z' => nd.1 (by rw [← z']; exact List.mem_of_getElem? e'))]
      exact h2
theorem lk_some {cl : List (Str × Addr)} {y : Str} (h : y ∈ cl.map (·.1)) : ∃ c, cl.lookup y = some c := by
  induction cl with
  | nil => simp at h
  | cons p r ih =>
    rw [List.lookup_cons]
    by_cases e : y = p.1
    · rw [e]; exact ⟨p.2, by simp⟩
    · rw [beq_false_of_ne e]
      rw [List.map_cons, List.mem_cons] at h
      exact ih (h.resolve_left e)
section
variable {P : Program} {w : World} {K : PySem.W.Frag} {mg : Str → Option Value} {base : Heap}
theorem clo_of {k : Nat} {H : Hp} {f : Addr} {sp : Sp} {name qual x : Str} {params : Arguments} {body : List Stmt} {scope : Scope} {cl : List (Str × Addr)} {cs : List (Addr × Obj)} {ws : List V} (S : NsS x cl scope) (nd : (x :: cl.map (·.1)).Nodup)
    (inj : ∀ y z c, cl.lookup y = some c → cl.lookup z = some c → y = z) (F : FnN H f name qual params body scope cl) (C : Cells H cl cs ws)
    (hb : ∀ doc pm c' ctv u, bindArgs (PySem.W.fnX name qual params body scope cl .none .none doc pm none (.ref c') ctv) ⟨[u], []⟩ = pure [(x, u)]) (len : ∀ vs H Q E, sp vs H Q E → vs.length = 1)
    (hbody : ∀ (cd : Value) (A : Around) (outer : List Env) (s : Shared) (H' : Hp) (v : V) (Q : VK) (E : XK), Same H H' → Room k (A.deeper (PySem.W.envX qual scope s.heap.objs.size f cd cl)) → sp [v] H' Q E →
      ∃ t, PSs (nsX P w K mg base (x :: cl.map (·.1)) qual scope cl f cd A outer s (dropA (cs.map (·.1)) H')) body t ∧ t { nx := fun _ H2 => (∀ c ∈ cs.map (·.1), H2 c = none) → Q .non (trkA cs H2), rt := fun v H2 => (∀ c ∈ cs.map (·.1), H2 c = none) → Q v (trkA cs H2) } (some v :: ws.map some) (dropA (cs.map (·.1)) H')) :
    Clo P w K mg base CX0 (k + 1) H f sp := by
  obtain ⟨doc, pm, c', ctv, hf, ca⟩ := F
  refine ⟨⟨_, _, _, _, _, hf⟩, fun H' sm A outer s us vs Q E hr e0 r hsp => ?_⟩
  obtain ⟨v, rfl⟩ : ∃ v, vs = [v] := by
    match vs, len _ _ _ _ hsp with
    | [v], _ => exact ⟨v, rfl⟩
  obtain ⟨u, rfl, ru⟩ := vals1 r
  have C' := C.keep sm
  have hfrz := C'.frz
  have nfs : ∀ c o, cs.lookup c = some o → c ∉ frs outer := fun c o q z => by
    have := e0.frf c z
    rw [hfrz c o q] at this; cases this
  have lim : s.heap.NoLimit := e0.mod.nolimit.keeps fun b o e => (e0.bs b o e).1
  have okD : HOk P w (dropA (cs.map (·.1)) H') s.heap := e0.hok.drp fun c m => by
    obtain ⟨o, ho⟩ := lk_mem.mp m
    exact ⟨o, _, hfrz c o ho⟩
  have dn : ∀ b, H' b = none → dropA (cs.map (·.1)) H' b = none := fun b n => by
    unfold dropA
    split
    · rfl
    · exact n
  have hcd : s.heap.CodeRec (.ref c') qual := by
    obtain ⟨oc, vs, t, uu, e, h1, h2⟩ := ca
    exact ⟨c', oc, vs, t, rfl, (e0.hok _ _ (sm _ _ e)).1, h1, h2⟩
  obtain ⟨t, ht, hq⟩ := hbody (.ref c') A outer s H' v Q E sm (hr.deeper _) hsp
  refine codeAny_call_function hr.depth ((e0.hok _ _ (sm _ _ hf)).1) rfl S.co S.gen rfl hcd ?_
  rw [hb]
  refine wpAny_pure (wpAny_newFunctionEnv S.cell (fun z hz => ?_) (fun h₁ hns hsb => ?_) S.kind)
  · have e : z = (x, u) := by simpa using hz
    rw [e]; exact S.loc
  have hk₁ : ∀ b o, s.heap.get? b = some o → h₁.get? b = some o := fun b o e => hsb.extBut b o (Nat.ne_of_lt (Heap.lt_size e)) (Heap.get?_push_of_some _ e)
  refine ⟨lim.keeps hk₁, codeAny_func ?_⟩
  have noA : ∀ b : Addr, b ∉ (nsX P w K mg base (x :: cl.map (·.1)) qual scope cl f (.ref c') A outer s (dropA (cs.map (·.1)) H')).ex := fun b z => absurd (show b ∈ ([] : List Addr) from z) (by simp)
  have ndc := (List.nodup_cons.mp nd).2
  have J : Inv (nsX P w K mg base (x :: cl.map (·.1)) qual scope cl f (.ref c') A outer s (dropA (cs.map (·.1)) H')) [] (some v :: ws.map some) (dropA (cs.map (·.1)) H') { s with heap := h₁, toks := s.toks + 1 } := by
    refine ⟨⟨e0.mod, S.kind, rfl, rfl, Nat.le_refl _, inj, fun a ha => ?_, fun a c h _ => (by cases h), fun _ => hr.hd, Around.frames_deeper e0.frames, .inr ⟨rfl, rfl⟩, fun b z => absurd z (noA b), fun b o e => ⟨(e0.bs b o e).1, dn b (e0.bs b o e).2⟩, e0.bsz, fun b _ _ => noA b, fun b z => absurd z (noA b), e0.funs, fun b hb => dn b (e0.frf b hb)⟩,
      rfl, e0.bare, Un.kept hk₁, ⟨_, hns, fun i z v' h1 h2 h3 => ?_⟩, fun a c h => ?_, okD.fresh (Nat.le_refl _), fun a c h => ?_, fun p hp => absurd (show p ∈ ([] : List (Addr × Obj)) from hp) (by simp), okD.kept hk₁, ?_⟩
    · have ha : scope.names.lookup a = some .cell ∨ scope.names.lookup a = some .free := ha
      rcases ha with ha | ha
      · exact absurd rfl (S.cell _ (PySem.mem_of_lookup ha))
      · exact lk_some (S.only a ha)
    · cases i with
      | zero =>
        have h1' : some x = some z := h1
        have h2' : some (some v) = some (some v') := h2
        cases h1'
        cases h2'
        exact ⟨u, ru, .inl ⟨S.loc, by simp⟩⟩
      | succ i =>
        have h1' : (cl.map (·.1))[i]? = some z := by
          have h1 : (x :: cl.map (·.1))[i + 1]? = some z := h1
          simpa using h1
        have h2' : ws[i]? = some v' := by
          have h2 : (some v :: ws.map some)[i + 1]? = some (some v') := h2
          simpa using h2
        obtain ⟨u', c2, q1, q2, o, q3, q4⟩ := C'.at e0.hok ndc i z v' h1' h2'
        exact ⟨u', q1, .inr ⟨.inr (S.fre z (List.mem_of_getElem? h1')), c2, q2, o, hk₁ _ _ q3, q4⟩⟩
    · have h : cl.lookup a = some c := h
      have m := C'.lk a c h
      obtain ⟨o, ho⟩ := lk_mem.mp m
      have ho2 := (e0.hok _ _ (hfrz c o ho)).1
      have key : ∃ u', s.heap.IsCell c (some u') := by
        have am : a ∈ cl.map (·.1) := List.mem_map.mpr ⟨(a, c), PySem.mem_of_lookup h, rfl⟩
        obtain ⟨i, hi⟩ := List.getElem?_of_mem am
        obtain ⟨v', hv'⟩ : ∃ v', ws[i]? = some v' := ⟨_, List.getElem?_eq_getElem (by rw [C'.len]; have := (List.getElem?_eq_some_iff.mp hi).1; rwa [List.length_map] at this)⟩
        obtain ⟨u', c2, _, q2, q3⟩ := C'.at e0.hok ndc i a v' hi hv'
        rw [h] at q2
        cases q2
        exact ⟨u', q3⟩
      obtain ⟨u', o', h1, h2⟩ := key
      exact ⟨_, o', hk₁ _ _ h1, h2⟩
    · exact dropA_in (C'.lk a c h)
    · show (some v :: ws.map some).length = (x :: cl.map (·.1)).length
      rw [List.length_cons, List.length_cons, List.length_map, List.length_map, C'.len]
  refine wpAny_mono (ht [] _ _ _ _ J hq) (fun fl s' hs => ?_) fun e s' z => z.elim
  have fin : ∀ {σ' : St} {H2 : Hp} {v : V} {u : Value}, Inv (nsX P w K mg base (x :: cl.map (·.1)) qual scope cl f (.ref c') A outer s (dropA (cs.map (·.1)) H')) [] σ' H2 s' → RelV v u → ((∀ c ∈ cs.map (·.1), H2 c = none) → Q v (trkA cs H2)) → CE outer P w H' s Q u s' := fun {σ' H2 v u} J rv q => by
    obtain ⟨un, hok⟩ := Un.took (P := P) (w := w) (cs := cs) J.base e0.hok J.hok fun c o q => ⟨hfrz c o q, nfs c o q⟩
    refine ⟨v, trkA cs H2, J.os, J.bare, un, hok, rv, q fun c m => ?_⟩
    obtain ⟨o, ho⟩ := lk_mem.mp m
    exact J.base.free c o ((e0.hok _ _ (hfrz c o ho)).1) (dropA_in m) (by intro z; exact absurd (show c ∈ ([] : List Addr) from z) (by simp))
  cases fl with
  | ret u =>
    obtain ⟨v, σ', H', J, rv, q⟩ := hs
    exact fin J rv q
  | next =>
    obtain ⟨σ', H', J, q⟩ := hs
    exact fin (v := V.non) (u := Value.none) J rfl q
  | brk =>
    obtain ⟨_, _, _, q⟩ := hs
    exact False.elim q
  | cont =>
    obtain ⟨_, _, _, q⟩ := hs
    exact False.elim q
end
end L2

/-! ### a def that makes a function of its parameter and hands it back -/
namespace L2
open PySem PySem.Spec PySem.Calls PyProof.Rows
/-- what such a def does -/
def spMaker (P : Addr) (name qual y : Str) (params : Arguments) (body : List Stmt) (scope : Scope) (pos : Pos) : Sp := fun vs H Q _ => ∃ v, vs = [v] ∧ LamT H P qual pos ∧
  ∀ f cc o H', SameB P H H' → LamT H' P qual pos → H f = none → H cc = none → FnN H' f name qual params body scope [(y, cc)] → Cells H' [(y, cc)] [(cc, o)] [v] → Q (.ref f) H'
section
variable {P : Program} {w : World} {K : PySem.W.Frag} {mg : Str → Option Value} {base : Heap}
end
end L2

/-! ### the head of a law some of whose defs make functions: the tables of their codes are tracked from the start -/
namespace L2
open PySem PySem.Spec PySem.Calls PyProof.Rows
theorem law_callTs {P : Program} {w : World} {K : PySem.W.Frag} {mg mb : Str → Option Value} {CX : CXT} {k : Nat} {fa a : Addr} {fd : FuncData} {x : Str} {sp : Sp} {s₁ : Shared} {vs : List Value} {ns : List Int} {Ts : List (Addr × Addr)}
    (KX : K.In s₁.heap) (hns : s₁.heap.Ns mainGlobals mg) (hb : s₁.heap.Ns builtinsNs mb) (hbb : ∀ x : Str, x ≠ "__name__" → mb x = bootBuiltins x) (hlim : s₁.heap.NoLimit) (hg : s₁.gens = #[])
    (ha : s₁.heap.get? a = some { cls := .type "list", data := .seq vs.toArray }) (hi : IntsAre vs ns) (hl : ns.length ≤ sizeLine) (hr : Room k callerA)
    (C : ∀ q ∈ Ts, PySem.W.CodeHd s₁.heap q.1 q.2) (hT : ∀ q ∈ Ts, s₁.heap.get? q.2 = some (PySem.W.tabObj #[])) (hnt : PySem.W.noTabs K = true) (hbm : ∀ q ∈ Ts, s₁.heap.BuiltinsAt mg q.2) (hgT : ∀ q ∈ Ts, mainGlobals ≠ q.2)
    (F : ∀ base : Heap, K.In base → base.Ns mainGlobals mg → (∀ q ∈ Ts, LamB mg base q.1 q.2) → FnOk P w K mg base CX k fa fd [x] sp) (hbind : ∀ (s : Shared) (u : Value), BindsTo s fd ⟨[u], []⟩ [(x, u)])
    (hsp : ∀ H : Hp, (∀ q ∈ Ts, H q.2 = some (.tbl #[])) → SqL K H a (ns.map V.int) → sp [.ref a] H (fun v _ => v = .bl true) fun _ _ _ => False)
    (hCX : ∀ H e s', CX [] H s₁ (fun _ _ _ => False) e s' → False) :
    codeAny (model P w) callerA (.call (.ref fa) ⟨[.ref a], []⟩) (fun r s' => r = .ok (.ret (.bool true)) ∧ OldK s₁.heap s'.heap ∧ s'.os = s₁.os ∧ AllBare s'.gens) s₁ := by
  have rv := vals_ints hi
  have lenV := hi.length
  have isT : ∀ b, b ∈ Ts.map (·.2) → ∃ q ∈ Ts, q.2 = b := fun b m => by
    obtain ⟨q, h1, h2⟩ := List.mem_map.mp m
    exact ⟨q, h1, h2⟩
  have tabT : ∀ b, b ∈ Ts.map (·.2) → s₁.heap.get? b = some (PySem.W.tabObj #[]) := fun b m => by
    obtain ⟨q, h1, rfl⟩ := isT b m
    exact hT q h1
  have haT : a ∉ Ts.map (·.2) := fun m => by rw [tabT a m] at ha; cases ha
  have hKT : ∀ b ∈ Ts.map (·.2), K.lookup b = none := fun b m => by
    cases q : K.lookup b with
    | none => rfl
    | some o =>
      have e := KX _ _ q
      rw [tabT b m] at e
      cases e
      have h2 := List.all_eq_true.mp hnt _ (PySem.W.mem_of_lookupK q)
      exact absurd (show false = true from h2) Bool.false_ne_true
  have core : ∀ H : Hp, (∀ b ∈ Ts.map (·.2), H b = some (.tbl #[])) → (∀ b, b ∉ Ts.map (·.2) → H b = none ∨ ∃ o xs, H b = some (.frz o (.lst xs))) → SqL K H a (ns.map V.int) → HOk P w H s₁.heap → (∀ b, H b ≠ none → b = a ∨ b ∈ Ts.map (·.2)) → (H a ≠ none → K.lookup a = none) →
      codeAny (model P w) callerA (.call (.ref fa) ⟨[.ref a], []⟩) (fun r s' => r = .ok (.ret (.bool true)) ∧ OldK s₁.heap s'.heap ∧ s'.os = s₁.os ∧ AllBare s'.gens) s₁ := by
    intro H hHT hO hS hok hA hK
    have base_of : ∀ {b : Addr} {o : Obj}, s₁.heap.get? b = some o → H b = none → (hidT s₁.heap H).get? b = some o := fun e n => hidT_get e n
    have noC : ∀ {b : Addr} {o : Obj}, s₁.heap.get? b = some o → o.cls ≠ .type "list" ∨ (∀ xs n, o.data ≠ .seq xs n) → o ≠ PySem.W.tabObj #[] → H b = none := fun {b o} e d nT => by
      cases q : H b with
      | none => rfl
      | some u =>
        rcases hA b (by rw [q]; simp) with e' | e'
        · subst e'
          rw [ha] at e; cases e
          rcases d with d | d
          · exact absurd rfl d
          · exact absurd rfl (d _ _)
        · rw [tabT b e'] at e
          exact absurd (Option.some.inj e).symm nT
    have noA : ∀ {b : Addr} {o : Obj} {es : Array DictEntry} {ep : Nat}, s₁.heap.get? b = some o → o.data = .dict es ep → H b = none := fun {b o es ep} e d =>
      noC e (.inr fun xs n z => by rw [d] at z; cases z) fun z => by rw [z] at d; cases d
    have nsK : ∀ {b : Addr} {m : Str → Option Value}, s₁.heap.Ns b m → (hidT s₁.heap H).Ns b m := fun {b m} ⟨o, es, ep, e, d, r⟩ => ⟨o, es, ep, base_of e (noA e d), d, r⟩
    have hKb : K.In (hidT s₁.heap H) := fun b o e => base_of (KX b o e) (by
      cases q : H b with
      | none => rfl
      | some u =>
        rcases hA b (by rw [q]; simp) with e' | e'
        · subst e'
          rw [hK (by rw [q]; simp)] at e; cases e
        · rw [hKT b e'] at e; cases e)
    have hM : Mod K mg (hidT s₁.heap H) := ⟨hKb, nsK hns, ⟨mb, nsK hb, hbb⟩, let ⟨mc, h1, h2⟩ := hlim; ⟨mc, nsK h1, h2⟩⟩
    have hL : ∀ q ∈ Ts, LamB mg (hidT s₁.heap H) q.1 q.2 := fun q hq => by
      refine ⟨?_, hgT q hq, ?_⟩
      · obtain ⟨o, vs', file, tf, flags, tg, inF, text, tt, e1, e2, e3, e4, r1, r2, r3, r4, r5, ne⟩ := C q hq
        exact ⟨o, vs', file, tf, flags, tg, inF, text, tt, base_of e1 (noC e1 (.inl (by rw [e2]; decide)) fun z => by rw [z] at e2; cases e2), e2, e3, e4, r1, r2, r3, r4, r5, ne⟩
      · obtain ⟨bm, o, a1, a2, a3, a4, a5, a6, a7⟩ := hbm q hq
        exact ⟨bm, o, a1, a2, a3, a4, base_of a5 (noC a5 (.inl (by rw [a6]; decide)) fun z => by rw [z] at a6; cases a6), a6, a7⟩
    have e0 : Env0 P w K mg (hidT s₁.heap H) callerA [] s₁ H := ⟨rfl, hM, fun b o e => of_hidT e, Nat.le_of_eq (hidT_size _ _), trivial, fun b hb => absurd (show b ∈ ([] : List Addr) from hb) (by simp), hok, .of_eq hg⟩
    refine codeAny_mono ((F _ hKb (nsK hns) hL).run callerA [] s₁ H ⟨[.ref a], []⟩ [.ref a] [.ref a] _ _ hr e0 (hbind s₁ (.ref a)) (.cons rfl .nil) (hsp H (fun q hq => hHT _ (List.mem_map_of_mem hq)) hS)) fun r s' h => ?_
    cases r with
    | error e => exact (hCX H e s' h).elim
    | ok fl =>
      cases fl with
      | next => exact False.elim h
      | brk => exact False.elim h
      | cont => exact False.elim h
      | ret u =>
        obtain ⟨v, H', os, bare, un, hok', r', q⟩ := h
        have q' : v = .bl true := q
        subst q'
        obtain rfl : u = Value.bool true := r'
        have keep : ∀ b o, b ∉ Ts.map (·.2) → s₁.heap.get? b = some o → s'.heap.get? b = some o := fun b o nb e => by
          cases q : H b with
          | none => exact un.keep b o e q (by intro z; exact absurd (show b ∈ ([] : List Addr) from z) (by simp)) (by simp)
          | some u =>
            rcases hO b nb with z | ⟨ob, xs, z⟩
            · rw [q] at z; cases z
            · have z2 := un.frzs b ob _ z
              obtain ⟨e1, _⟩ := hok b _ z
              obtain ⟨e2, _⟩ := hok' b _ z2
              rw [e] at e1; cases e1
              exact e2
        refine ⟨rfl, ⟨fun b o e => ?_, fun b o e => ?_⟩, os, bare⟩
        · by_cases nb : b ∈ Ts.map (·.2)
          · obtain ⟨more, hm⟩ := un.tbls b #[] (hHT b nb)
            have hTm : s'.heap.get? b = some (PySem.W.tabObj (#[] ++ more)) := hok' _ _ hm
            obtain ⟨q, hq, rfl⟩ := isT b nb
            rw [hT q hq] at e; cases e
            exact .inr (.inl ⟨((C q hq).tab (hT q hq)).isCodeTable, rfl, #[], more, rfl, hTm⟩)
          · exact .inl (keep b o nb e)
        · by_cases nb : b ∈ Ts.map (·.2)
          · obtain ⟨more, hm⟩ := un.tbls b #[] (hHT b nb)
            exact ⟨_, (show s'.heap.get? b = some (PySem.W.tabObj (#[] ++ more)) from hok' _ _ hm)⟩
          · exact ⟨o, keep b o nb e⟩
  cases hk : K.lookup a with
  | some o =>
    have e := KX a o hk
    rw [ha] at e
    cases e
    refine core (fun b => if b ∈ Ts.map (·.2) then some (.tbl #[]) else none) (fun b m => if_pos m) (fun b nb => .inl (if_neg nb)) (.inr ⟨_, vs.toArray, _, hk, rfl, rfl, rfl, by rw [List.size_toArray, lenV]; exact hl, by simpa using rv⟩) (fun b u z => ?_) (fun b z => ?_) fun z => absurd (if_neg haT) z
    · by_cases nb : b ∈ Ts.map (·.2)
      · have z' := (if_pos nb).symm.trans z
        cases z'
        exact tabT b nb
      · have z' := (if_neg nb).symm.trans z
        cases z'
    · by_cases nb : b ∈ Ts.map (·.2)
      · exact .inr nb
      · exact absurd (if_neg nb) z
  | none =>
    refine core (fun b => if b ∈ Ts.map (·.2) then some (.tbl #[]) else if b = a then some (.frz { cls := .type "list", data := .seq vs.toArray } (.lst (ns.map V.int))) else none) (fun b m => if_pos m) (fun b nb => ?_) (.inl (.inr ⟨{ cls := .type "list", data := .seq vs.toArray }, (if_neg haT).trans (if_pos rfl)⟩)) (fun b u z => ?_) (fun b z => ?_) fun _ => hk
    · by_cases hb : b = a
      · exact .inr ⟨_, _, (if_neg nb).trans (if_pos hb)⟩
      · exact .inl ((if_neg nb).trans (if_neg hb))
    · by_cases nb : b ∈ Ts.map (·.2)
      · have z' := (if_pos nb).symm.trans z
        cases z'
        exact tabT b nb
      · have z0 := (if_neg nb).symm.trans z
        by_cases hb : b = a
        · have z' := (if_pos hb).symm.trans z0
          cases z'
          subst hb
          exact ⟨ha, by rw [List.length_map]; exact hl, vs, _, rv, ha⟩
        · have z' := (if_neg hb).symm.trans z0
          cases z'
    · by_cases nb : b ∈ Ts.map (·.2)
      · exact .inr nb
      · by_cases hb : b = a
        · exact .inl hb
        · exact absurd ((if_neg nb).trans (if_neg hb)) z
end L2

/-! the rows that a spread lays, as mathematics; nodes, graphs and rows in the heap -/
namespace BF
open PySem PySem.Spec PyProof.Rows L2
abbrev Rw := V × Nat × Option Nat × V
inductive Res where
  | found (rows : List Rw)
  | none (rows : List Rw)
  | many
abbrev Nd := Key ⊕ NKey
structure Prm where
  key : V → Nd
  E : Nd → List (V × V)
  goal : Nd → Bool
  deep : Nat
  most : Nat
def inner (B : Prm) (p d : Nat) : List Rw → List (V × V) → List Rw ⊕ Res
  | rows, [] => .inl rows
  | rows, x :: es => if (rows.any fun r => decide (B.key r.1 = B.key x.2)) = true then inner B p d rows es else if B.most ≤ rows.length then .inr .many else
    if B.goal (B.key x.2) = true then .inr (.found (rows ++ [(x.2, d + 1, some p, x.1)])) else inner B p d (rows ++ [(x.2, d + 1, some p, x.1)]) es
def outer (B : Prm) : Nat → List Rw → Nat → Res
  | 0, rows, _ => .none rows
  | n + 1, rows, p => match rows[p]? with
    | none => .none rows
    | some r => if r.2.1 < B.deep then (match inner B p r.2.1 rows (B.E (B.key r.1)) with | .inl rows' => outer B n rows' (p + 1) | .inr x => x) else .none rows
def bfs (B : Prm) (v : V) : Res := if B.goal (B.key v) = true then .found [(v, 0, none, .non)] else outer B (B.most + 1) [(v, 0, none, .non)] 0
/-- what holds of all rows so far -/
structure RI (B : Prm) (us : List V) (rows : List Rw) : Prop where
  l1 : 1 ≤ rows.length
  lm : rows.length ≤ B.most
  us : ∀ r ∈ rows, r.1 ∈ us
  dp : ∀ r ∈ rows, r.2.1 ≤ B.deep
  sf : ∀ r ∈ rows, Sf r.2.2.2
/-- a node -/
def NdV (kd : Bool) (H : Hp) (v : V) (n : Nd) : Prop := if kd = true then ∃ k b, n = .inr k ∧ v = .ref b ∧ KeyAt H k b else ∃ k, n = .inl k ∧ v = kV k
/-- a dict whose keys are nodes -/
def DX (kd : Bool) (P : Program) (w : World) (H : Hp) (a : Addr) (kvs : List (Nd × V)) : Prop :=
  if kd = true then ∃ xs : List (NKey × V), kvs = xs.map (fun x => (Sum.inr x.1, x.2)) ∧ ND P w H a xs else ∃ xs : List (Key × V), kvs = xs.map (fun x => (Sum.inl x.1, x.2)) ∧ H a = some (.dK xs)
/-- the steps from a node: pairs of a deed and a node -/
def EdL (H : Hp) (es : List V) (xs : List (V × V)) : Prop := Paired (fun e x => ∃ r, e = V.ref r ∧ H r = some (.tup [x.1, x.2])) es xs
def parV : Option Nat → V
  | none => .non
  | some p => .int ((p : Nat) : Int)
/-- rows in the heap -/
def RwL (H : Hp) (vs : List V) (rows : List Rw) : Prop := Paired (fun v r => ∃ a, v = V.ref a ∧ H a = some (.tup [r.1, .int ((r.2.1 : Nat) : Int), parV r.2.2.1, r.2.2.2])) vs rows
theorem paired_at {α β : Type} {F : α → β → Prop} : ∀ {l : List α} {m : List β}, Paired F l m → ∀ {i : Nat} {b : β}, m[i]? = some b → ∃ a, l[i]? = some a ∧ F a b
  | _, _, .nil, i, b, e => by simp at e
  | _, _, .cons r t, 0, b, e => by
    simp at e; subst e
    exact ⟨_, rfl, r⟩
  | _, _, .cons r t, i + 1, b, e => by
    obtain ⟨a, h1, h2⟩ := paired_at t (i := i) (b := b) (by simpa using e)
    exact ⟨a, by simpa using h1, h2⟩
end BF

/-! ### dicts whose keys are tuples (x, (y, ..)) -/
namespace LK
open PySem PySem.Spec PyProof.Rows L2
/-- the key k lies at c -/
def KeyAt (K : PySem.W.Frag) (H : Hp) (k : NKey) (c : Addr) : Prop := ∃ b, SqZ K H c [kV k.1, .ref b] ∧ SqZ K H b (k.2.map kV)
theorem sz_keep {K : PySem.W.Frag} {H H' : Hp} {c : Addr} {xs : List V} (h : SqZ K H c xs) (t : ∀ b ys, H b = some (.tup ys) → H' b = some (.tup ys)) : SqZ K H' c xs := by
  rcases h with h | h
  · exact .inl (t _ _ h)
  · exact .inr h
theorem KeyAt.keep {K : PySem.W.Frag} {H H' : Hp} {k : NKey} {c : Addr} (h : KeyAt K H k c) (t : ∀ b ys, H b = some (.tup ys) → H' b = some (.tup ys)) : KeyAt K H' k c := let ⟨b, h1, h2⟩ := h; ⟨b, sz_keep h1 t, sz_keep h2 t⟩
abbrev KN (K : PySem.W.Frag) (H : Hp) : List (NKey × V) → List (NKey × Addr × Value) → Prop := Paired fun p q => p.1 = q.1 ∧ KeyAt K H p.1 q.2.1 ∧ RelV p.2 q.2.2
theorem KN.val {K : PySem.W.Frag} {H : Hp} {kvs : List (NKey × V)} {xs : List (NKey × Addr × Value)} (r : KN K H kvs xs) (k : NKey) : RelO (valV kvs k) ((atKey xs k).map (·.2)) := by
  induction r with
  | nil => exact True.intro
  | @cons p q ps qs h t ih =>
    obtain ⟨h1, _, h2⟩ := h
    by_cases e : p.1 = k
    · have e' : q.1 = k := h1.symm.trans e
      have b : atKey (q :: qs) k = some q.2 := by simp [atKey, List.find?_cons, e']
      rw [valV_pos e, b]; exact h2
    · have e' : ¬ q.1 = k := fun z => e (h1.trans z)
      have b : atKey (q :: qs) k = atKey qs k := by simp [atKey, List.find?_cons, e']
      rw [valV_neg e, b]; exact ih
theorem KN.repl {K : PySem.W.Frag} {H : Hp} {kvs : List (NKey × V)} {xs : List (NKey × Addr × Value)} (r : KN K H kvs xs) (k : NKey) {y : V} {u : Value} (ry : RelV y u) :
    KN K H (kvs.map fun kv => if kv.1 = k then (kv.1, y) else kv) (xs.map (putAt k u)) := by
  induction r with
  | nil => exact .nil
  | @cons p q ps qs h t ih =>
    rw [List.map_cons, List.map_cons]
    refine .cons ?_ ih
    obtain ⟨h1, h2, h3⟩ := h
    unfold putAt
    by_cases e : p.1 = k
    · rw [if_pos e, if_pos (h1.symm.trans e)]; exact ⟨h1, h2, ry⟩
    · rw [if_neg e, if_neg (fun z => e (h1.trans z))]; exact ⟨h1, h2, h3⟩
theorem KN.put {K : PySem.W.Frag} {H : Hp} {kvs : List (NKey × V)} {xs : List (NKey × Addr × Value)} (r : KN K H kvs xs) (k : NKey) {b : Addr} {y : V} {u : Value} (hb : KeyAt K H k b) (ry : RelV y u) : KN K H (putK kvs k y) (storedH xs k b u) := by
  have e : (kvs.any fun kv => decide (kv.1 = k)) = (atKey xs k).isSome := by
    rw [valV_any, (r.val k).isSome_eq, Option.isSome_map]
  unfold putK storedH
  rw [e]
  by_cases q : (atKey xs k).isSome = true
  · rw [if_pos q, if_pos q]; exact r.repl k ry
  · rw [if_neg q, if_neg q]; exact Paired.snoc r ⟨rfl, hb, ry⟩
theorem KN.keeps {K : PySem.W.Frag} {H H' : Hp} {kvs : List (NKey × V)} {xs : List (NKey × Addr × Value)} (r : KN K H kvs xs) (ht : ∀ b ys, H b = some (.tup ys) → H' b = some (.tup ys)) : KN K H' kvs xs :=
  Paired.mapP r fun _ _ z => ⟨z.1, z.2.1.keep ht, z.2.2⟩
def DObj (P : Program) (w : World) (a : Addr) (xs : List (NKey × Addr × Value)) (h : Heap) : Prop := ∃ o es ep, h.get? a = some o ∧ o.ExactDict ∧ o.data = .dict es ep ∧ es.toList = xs.map (entryOfKey (NK.pairKind (mixKind P w)))
theorem dobj_ok {P : Program} {w : World} {H : Hp} {h : Heap} {a : Addr} {xs : List (NKey × Addr × Value)} (d : DObj P w a xs h) : ObjOk P w H h a (.ext (DObj P w a xs)) := by
  refine ⟨d, let ⟨o, _, _, e, _⟩ := d; ⟨o, e⟩, fun h1 h2 k s => ?_⟩
  obtain ⟨o, es, ep, e, r⟩ := k
  exact ⟨o, es, ep, s _ e, r⟩
/-- a dict with such keys -/
structure ND (P : Program) (w : World) (K : PySem.W.Frag) (H : Hp) (a : Addr) (kvs : List (NKey × V)) : Prop where
  ex : ∃ xs, H a = some (.ext (DObj P w a xs)) ∧ KN K H kvs xs ∧ (xs.map (·.1)).Nodup
  z : kvs.length ≤ sizeLine
  ne : (a == sysModules) = false
section
variable {P : Program} {w : World} {K : PySem.W.Frag} {H H' : Hp} {h : Heap} {a : Addr} {kvs : List (NKey × V)}
theorem ND.keep (n : ND P w K H a kvs) (ha : ∀ o, H a = some o → H' a = some o) (ht : ∀ b ys, H b = some (.tup ys) → H' b = some (.tup ys)) : ND P w K H' a kvs :=
  let ⟨xs, e, r, d⟩ := n.ex; ⟨⟨xs, ha _ e, r.keeps ht, d⟩, n.z, n.ne⟩
theorem keyN_of {X : Cx} {pins : List (Addr × Obj)} {σ : L2.St} {H : Hp} {s : Shared} {k : NKey} {c : Addr} (I : Inv X pins σ H s) (q : KeyAt X.K H k c) : NK.IsPairKey (mixKind X.prog X.w) s.heap k c := by
  obtain ⟨b, h1, h2⟩ := q
  obtain ⟨its, r, ⟨o, e1, e2, n, e3⟩, _⟩ := I.tuple h1.sq
  obtain ⟨u, v, rfl, ru, rv⟩ := r.two
  obtain rfl : v = Value.ref b := rv
  obtain ⟨its2, r2, ⟨o2, g1, g2, n2, g3⟩, _⟩ := I.tuple h2.sq
  exact ⟨o, u, b, n, e1, e2, e3, kV_is ru, ⟨o2, its2.toArray, n2, g1, g2, g3, by simpa using items_are r2⟩⟩
theorem nd_rd {X : Cx} {pins : List (Addr × Obj)} {σ : L2.St} {H : Hp} {s : Shared} (I : Inv X pins σ H s) (n : ND X.prog X.w X.K H a kvs) : ∃ xs, H a = some (.ext (DObj X.prog X.w a xs)) ∧ KN X.K H kvs xs ∧ s.heap.DictOfH (NK.pairKind (mixKind X.prog X.w)) a xs := by
  obtain ⟨xs, e, r, d⟩ := n.ex
  obtain ⟨⟨o, es, ep, h1, h2, h3, h4⟩, _⟩ := (show ObjOk X.prog X.w H s.heap a (.ext (DObj X.prog X.w a xs)) from I.hok a _ e)
  refine ⟨xs, e, r, o, es, ep, h1, h2, h3, h4, ?_, d⟩
  have all : ∀ {l : List (NKey × V)} {m : List (NKey × Addr × Value)}, KN X.K H l m → ∀ x ∈ m, (NK.pairKind (mixKind X.prog X.w)).is s.heap x.1 x.2.1 := by
    intro l m q
    induction q with
    | nil => intro x hx; exact nomatch hx
    | @cons p q ps qs hq t ih =>
      intro x hx
      rcases List.mem_cons.mp hx with e | hx
      · subst e
        exact keyN_of I (by rw [← hq.1]; exact hq.2.1)
      · exact ih x hx
  exact all r
end
theorem ND.len {P : Program} {w : World} {K : PySem.W.Frag} {H : Hp} {a : Addr} {kvs : List (NKey × V)} {k : NKey} {v : V} (n : ND P w K H a kvs) (l : kvs.length < sizeLine) : (putK kvs k v).length ≤ sizeLine := by have := length_putK kvs k v; omega
/-- a dict of ints, texts, tuples of them, or of tuples (x, (y, ..)) -/
def DGetX (P : Program) (w : World) (K : PySem.W.Frag) (H : Hp) (a : Addr) (y : V) (r : Option V) : Prop := DGet H a y r ∨ ∃ kvs k b, ND P w K H a kvs ∧ y = .ref b ∧ KeyAt K H k b ∧ r = valV kvs k
def DPutX (P : Program) (w : World) (K : PySem.W.Frag) (H : Hp) (a : Addr) (y v : V) (N : Hp → Prop) : Prop := (∃ H', DPut H a y v H' ∧ N H') ∨
  ∃ kvs k b, ND P w K H a kvs ∧ y = .ref b ∧ KeyAt K H k b ∧ kvs.length < sizeLine ∧ ∀ o, ND P w K (upd H a o) a (putK kvs k v) → N (upd H a o)
section
variable {X : Cx} {pins : List (Addr × Obj)} {σ : L2.St} {H : Hp} {s : Shared} {a : Addr} {y v : V} {u r : Value} {o : Option V} {A : Around} {E : Value → Shared → Prop}
theorem roomN (hu : A.units + 2 < cLine) : (NK.pairKind (mixKind X.prog X.w)).room A.in1 := hu
theorem dx_notIn {Q : Value → Shared → Prop} (hu : A.units + 2 < cLine) (I : Inv X pins σ H s) (g : DGetX X.prog X.w X.K H a y o) (ry : RelV y u) (h : ∀ s', Inv X pins σ H s' → Q (.bool (!o.isSome)) s') :
    wpAny (model X.prog X.w) A (compareOp .NotIn u (.ref a)) Q E s := by
  rcases g with g | ⟨kvs, k, b, n, rfl, eb, l⟩
  · exact d_notIn (by omega) I g ry h
  · cases (show u = Value.ref b from ry)
    obtain ⟨xs, _, rel, dd⟩ := nd_rd I n
    refine wpAny_notIn_heap (roomN hu) (keyN_of I eb) n.ne dd ?_
    have q := (rel.val k).isSome_eq
    rw [Option.isSome_map] at q
    rw [← q, ← l]
    exact h _ (I.tok _)
/-- the dict's object behind a store -/
theorem nd_put {h' : Heap} {kvs : List (NKey × V)} {k : NKey} {b : Addr} {xs : List (NKey × Addr × Value)} {tk : Nat} (I : Inv X pins σ H s) (n : ND X.prog X.w X.K H a kvs) (e : H a = some (.ext (DObj X.prog X.w a xs))) (rel : KN X.K H kvs xs) (eb : KeyAt X.K H k b) (rv : RelV v r) (l : kvs.length < sizeLine)
    (dd' : h'.DictOfH (NK.pairKind (mixKind X.prog X.w)) a (storedH xs k b r)) (hs : Heap.SameBut a s.heap h') :
    ∃ o, ND X.prog X.w X.K (upd H a o) a (putK kvs k v) ∧ Inv X pins σ (upd H a o) { s with heap := h', toks := tk } := by
  obtain ⟨q, es, ep, hq, h2, h3, h4, _, h5⟩ := dd'
  have ht : ∀ c ys, H c = some (.tup ys) → upd H a (.ext (DObj X.prog X.w a (storedH xs k b r))) c = some (.tup ys) := fun c ys ec => by
    rw [upd_ne (ne_of ec e (fun z => nomatch z))]
    exact ec
  refine ⟨.ext (DObj X.prog X.w a (storedH xs k b r)), ⟨⟨_, upd_same, (rel.put k eb rv).keeps ht, h5⟩, n.len l, n.ne⟩, ?_⟩
  exact d_write I (by rw [e]; exact True.intro) hs ⟨q, hq⟩ (dobj_ok ⟨q, es, ep, hq, h2, h3, h4⟩)
theorem dx_setItem {N : Hp → Prop} {Q : Unit → Shared → Prop} (hu : A.units + 2 < cLine) (I : Inv X pins σ H s) (g : DPutX X.prog X.w X.K H a y v N) (ry : RelV y u) (rv : RelV v r) (h : ∀ H' s', N H' → Inv X pins σ H' s' → Q () s') :
    wpAny (model X.prog X.w) A (setItem (.ref a) u r) Q E s := by
  rcases g with ⟨H', g, k⟩ | ⟨kvs, k, b, n, rfl, eb, l, g⟩
  · exact d_setItem (by omega) I g ry rv fun s' I' => h _ _ k I'
  · cases (show u = Value.ref b from ry)
    obtain ⟨xs, e, rel, dd⟩ := nd_rd I n
    have hz : xs.length ≤ sizeLine := by rw [← Paired.length rel]; exact n.z
    refine wpAny_setItem_heap (hsz := hz) (roomN hu) (keyN_of I eb) dd fun h' dd' hs => ?_
    obtain ⟨o, n', I'⟩ := nd_put (tk := s.toks + (NK.pairKind (mixKind X.prog X.w)).draws k) I n e rel eb rv l dd' hs
    exact h _ _ (g o n') I'
end
def tDGetX (P : Program) (w : World) (K : PySem.W.Frag) (td ty : TE) : TE := fun σ H Q => td σ H fun x H1 => ty σ H1 fun y H2 => ∃ a v, x = .ref a ∧ DGetX P w K H2 a y (some v) ∧ Q v H2
def tDInX (P : Program) (w : World) (K : PySem.W.Frag) (ty td : TE) : TE := fun σ H Q => ty σ H fun y H1 => td σ H1 fun x H2 => ∃ a o, x = .ref a ∧ DGetX P w K H2 a y o ∧ Q (.bl o.isSome) H2
def tDNotInX (P : Program) (w : World) (K : PySem.W.Frag) (ty td : TE) : TE := fun σ H Q => ty σ H fun y H1 => td σ H1 fun x H2 => ∃ a o, x = .ref a ∧ DGetX P w K H2 a y o ∧ Q (.bl (!o.isSome)) H2
def sDPutX (P : Program) (w : World) (K : PySem.W.Frag) (td ty tv : TE) : TS := fun D σ H => tv σ H fun v H1 => td σ H1 fun x H2 => ty σ H2 fun y H3 => ∃ a, x = .ref a ∧ DPutX P w K H3 a y v (D.nx σ)
/-- {}, of either kind -/
def tDNewX (P : Program) (w : World) (K : PySem.W.Frag) : TE := fun _ H Q => (∀ p, H p = none → Q (.ref p) (upd H p (.dK []))) ∨ ∀ p o, H p = none → ND P w K (upd H p o) p [] → Q (.ref p) (upd H p o)
/-- {k: v}, of either kind -/
def tDisp1X (P : Program) (w : World) (K : PySem.W.Frag) (tk tv : TE) : TE := fun σ H Q => tDisp [(tk, tv)] σ H Q ∨ ∀ p o, H p = none → ND P w K (upd H p o) p [] →
  tk σ (upd H p o) fun x H1 => tv σ H1 fun y H2 => ND P w K H2 p [] ∧ ∃ k b, x = .ref b ∧ KeyAt K H2 k b ∧ ∀ o', ND P w K (upd H2 p o') p [(k, y)] → Q (.ref p) (upd H2 p o')
section
variable {X : Cx} {o i e value : Expr} {pos pos' tpos : Pos} {td ty tv tk : TE}
theorem pc_dnotinX (hu : X.A.units + 2 < cLine) (hi : PE X i ty) (ho : PE X o td) : PC X .NotIn i o (tDNotInX X.prog X.w X.K ty td) := by
  intro pins s σ H Q I h
  refine thn (hi pins s σ H _ I h) fun iv s1 ⟨y, H1, I1, ry, q1⟩ => thn (ho pins s1 σ H1 _ I1 q1) fun u s2 ⟨x, H2, I2, rx, a, ov, ex, g, q2⟩ => ?_
  subst ex
  obtain rfl : u = Value.ref a := rx
  exact dx_notIn hu I2 g ry fun s3 I3 => ⟨.bl (!ov.isSome), H2, I3, rfl, q2⟩
theorem ps_dputX (hu : X.A.units + 2 < cLine) (ho : PE X o td) (hi : PE X i ty) (hv : PE X value tv) (hs : swapsWith value (some (.Subscript o i pos')) pos.line X.env = pure false) :
    PS X (.Assign [.Subscript o i pos'] value pos) (sDPutX X.prog X.w X.K td ty tv) := by
  intro pins s σ H D I h
  refine wpAny_Assign_Subscript (thn (hv pins s σ H _ I h) fun r s1 ⟨v, H1, I1, rv, q1⟩ => thn (ho pins s1 σ H1 _ I1 q1) fun u s2 ⟨x, H2, I2, rx, q2⟩ => thn (hi pins s2 σ H2 _ I2 q2) fun iv s3 ⟨y, H3, I3, ry, a, ex, g⟩ => ?_) hs
  subst ex
  obtain rfl : u = Value.ref a := rx
  exact dx_setItem hu I3 g ry rv fun H' s4 q I4 => ⟨σ, H', I4, q⟩
theorem nd_empty {P : Program} {w : World} {K : PySem.W.Frag} {H : Hp} (h : Heap) (hb : sysModules < h.objs.size) : ObjOk P w (upd H h.objs.size (.ext (DObj P w h.objs.size []))) (h.push { cls := .type "dict", data := .dict #[] }) h.objs.size (.ext (DObj P w h.objs.size [])) ∧ ND P w K (upd H h.objs.size (.ext (DObj P w h.objs.size []))) h.objs.size [] :=
  ⟨dobj_ok ⟨_, #[], 0, Heap.get?_push_size _ rfl, ⟨rfl, rfl, rfl⟩, rfl, rfl⟩, ⟨⟨[], upd_same, .nil, List.nodup_nil⟩, Nat.zero_le _, beq_eq_false_iff_ne.mpr (Ne.symm (Nat.ne_of_lt hb))⟩⟩
theorem pe_disp1X (hu : X.A.units + 1 < cLine) (hk : PE X i tk) (hv : PE X e tv) : PE X (.Dict [some i] [e] pos) (tDisp1X X.prog X.w X.K tk tv) := fun pins s σ H Q I h => by
  rcases h with h | h
  · exact pe_disp (pps_cons hk hv pps_nil) rfl rfl (by simp) (by simp) pins s σ H Q I h
  · obtain ⟨h1, h2⟩ := nd_empty (P := X.prog) (w := X.w) (K := X.K) (H := H) s.heap I.big
    have hn := I.hok.fresh (Nat.le_refl s.heap.objs.size)
    have I1 := I.laid (a := s.heap.objs.size) (h' := s.heap.push { cls := .type "dict", data := .dict #[] }) (t' := s.toks) (fun _ _ q => Heap.get?_push_of_some _ q) (Nat.le_refl _) h1
    have h' := h _ _ hn h2
    refine wpAny_Dict_any rfl rfl (by simp) (by simp) (pairTrees_cons_walk (thn (hk pins _ σ _ _ I1 h') fun u s2 ⟨x, H2, I2, rx, q2⟩ => thn (hv pins s2 σ H2 _ I2 q2) fun w3 s3 ⟨y, H3, I3, ry, n3, k, b, ex, eb, q3⟩ => pairTrees_nil_walk ?_))
    subst ex
    obtain rfl : u = Value.ref b := rx
    unfold storeAll
    rw [List.forIn_cons]
    obtain ⟨xs, e, rel, dd⟩ := nd_rd I3 n3
    have hz : xs.length ≤ sizeLine := by rw [← Paired.length rel]; exact n3.z
    refine wpAny_bind (wpAny_bind (wpAny_dictSet_heap (hsz := hz) (knd := NK.pairKind (mixKind X.prog X.w)) hu (keyN_of I3 eb) dd fun h4 dd' hs => ?_))
    obtain ⟨o, n', I'⟩ := nd_put (tk := s3.toks + (NK.pairKind (mixKind X.prog X.w)).draws k) I3 n3 e rel eb ry (by decide) dd' hs
    refine wpAny_pure ?_
    show wpAny _ _ (forIn [] _ _) _ _ _
    rw [List.forIn_nil]
    exact wpAny_pure ⟨.ref s.heap.objs.size, _, I', rfl, q3 o n'⟩
end
end LK

/-! a spread over nodes (x, (y, ..)) that are made anew at each step: rows told by the nodes' keys -/
namespace BE
open PySem PySem.Spec PyProof.Rows L2 BF
abbrev Dd := Str × Int
abbrev Rx := NKey × Nat × Option Nat × Option Dd
inductive Rz where
  | found (rows : List Rx)
  | none (rows : List Rx)
  | many
structure Pr where
  E : NKey → List (Dd × NKey)
  goal : NKey → Bool
  deep : Nat
  most : Nat
def inner (B : Pr) (p d : Nat) : List Rx → List (Dd × NKey) → List Rx ⊕ Rz
  | rows, [] => .inl rows
  | rows, x :: es => if (rows.any fun r => decide (r.1 = x.2)) = true then inner B p d rows es else if B.most ≤ rows.length then .inr .many else
    if B.goal x.2 = true then .inr (.found (rows ++ [(x.2, d + 1, some p, some x.1)])) else inner B p d (rows ++ [(x.2, d + 1, some p, some x.1)]) es
def outer (B : Pr) : Nat → List Rx → Nat → Rz
  | 0, rows, _ => .none rows
  | n + 1, rows, p => match rows[p]? with
    | none => .none rows
    | some r => if r.2.1 < B.deep then (match inner B p r.2.1 rows (B.E r.1) with | .inl rows' => outer B n rows' (p + 1) | .inr x => x) else .none rows
def bfs (B : Pr) (k : NKey) : Rz := if B.goal k = true then .found [(k, 0, none, none)] else outer B (B.most + 1) [(k, 0, none, none)] 0
theorem inner_cons {B : Pr} {p d : Nat} {rows : List Rx} {x : Dd × NKey} {es : List (Dd × NKey)} : inner B p d rows (x :: es) = if (rows.any fun r => decide (r.1 = x.2)) = true then inner B p d rows es else if B.most ≤ rows.length then .inr .many else
    if B.goal x.2 = true then .inr (.found (rows ++ [(x.2, d + 1, some p, some x.1)])) else inner B p d (rows ++ [(x.2, d + 1, some p, some x.1)]) es := rfl
def nxR (B : Pr) (n p : Nat) : List Rx ⊕ Rz → Rz
  | .inl rows => outer B n rows (p + 1)
  | .inr x => x
theorem outer_at {B : Pr} {rows : List Rx} {n p : Nat} {r : Rx} (h : rows[p]? = some r) : outer B (n + 1) rows p = if r.2.1 < B.deep then nxR B n p (inner B p r.2.1 rows (B.E r.1)) else .none rows := by
  unfold outer
  rw [h]
  show (if r.2.1 < B.deep then _ else _) = _
  split
  · cases inner B p r.2.1 rows (B.E r.1) <;> rfl
  · rfl
theorem outer_end {B : Pr} {rows : List Rx} {n p : Nat} (h : rows.length ≤ p) : outer B (n + 1) rows p = .none rows := by
  unfold outer
  rw [List.getElem?_eq_none h]
/-- a node, a deed in the heap or among the constants of the top -/
def NV (K : PySem.W.Frag) (H : Hp) (v : V) (k : NKey) : Prop := ∃ b, v = V.ref b ∧ LK.KeyAt K H k b
theorem NV.keep {K : PySem.W.Frag} {H H' : Hp} {v : V} {k : NKey} (h : NV K H v k) (t : ∀ b ys, H b = some (.tup ys) → H' b = some (.tup ys)) : NV K H' v k := let ⟨b, e, q⟩ := h; ⟨b, e, q.keep t⟩
def DV (K : PySem.W.Frag) (H : Hp) (v : V) : Option Dd → Prop
  | none => v = .non
  | some x => ∃ a, v = .ref a ∧ SqZ K H a [.str x.1, .int x.2]
theorem DV.keep {K : PySem.W.Frag} {H H' : Hp} {v : V} {o : Option Dd} (h : DV K H v o) (t : ∀ b ys, H b = some (.tup ys) → H' b = some (.tup ys)) : DV K H' v o := by
  cases o with
  | none => exact h
  | some x =>
    obtain ⟨a, e, q⟩ := h
    exact ⟨a, e, LK.sz_keep q t⟩
def EdX (K : PySem.W.Frag) (H : Hp) (es : List V) (xs : List (Dd × NKey)) : Prop := Paired (fun e x => ∃ r d u, e = V.ref r ∧ SqZ K H r [d, u] ∧ DV K H d (some x.1) ∧ NV K H u x.2) es xs
theorem EdX.keep {K : PySem.W.Frag} {H H' : Hp} {es : List V} {xs : List (Dd × NKey)} (h : EdX K H es xs) (t : ∀ b ys, H b = some (.tup ys) → H' b = some (.tup ys)) : EdX K H' es xs := Paired.mapP h fun _ _ ⟨r, d, u, e, q, q1, q2⟩ => ⟨r, d, u, e, LK.sz_keep q t, q1.keep t, q2.keep t⟩
def RwX (K : PySem.W.Frag) (H : Hp) (vs : List V) (rows : List Rx) : Prop := Paired (fun v r => ∃ a u d, v = V.ref a ∧ H a = some (.tup [u, .int ((r.2.1 : Nat) : Int), parV r.2.2.1, d]) ∧ NV K H u r.1 ∧ DV K H d r.2.2.2) vs rows
theorem RwX.keep {K : PySem.W.Frag} {H H' : Hp} {es : List V} {xs : List Rx} (h : RwX K H es xs) (t : ∀ b ys, H b = some (.tup ys) → H' b = some (.tup ys)) : RwX K H' es xs := Paired.mapP h fun _ _ ⟨r, u, d, e, q, q1, q2⟩ => ⟨r, u, d, e, t _ _ q, q1.keep t, q2.keep t⟩
theorem RwX.len {K : PySem.W.Frag} {H : Hp} {vs : List V} {rows : List Rx} (h : RwX K H vs rows) : vs.length = rows.length := Paired.length h
theorem RwX.snoc {K : PySem.W.Frag} {H : Hp} {vs : List V} {rows : List Rx} {a : Addr} {u d : V} {r : Rx} (h : RwX K H vs rows) (ha : H a = some (.tup [u, .int ((r.2.1 : Nat) : Int), parV r.2.2.1, d])) (n : NV K H u r.1) (k : DV K H d r.2.2.2) : RwX K H (vs ++ [.ref a]) (rows ++ [r]) := Paired.snoc h ⟨a, u, d, rfl, ha, n, k⟩
/-- what holds of all rows so far -/
structure RI (B : Pr) (ok : Nat → NKey → Prop) (rows : List Rx) : Prop where
  l1 : 1 ≤ rows.length
  lm : rows.length ≤ B.most
  us : ∀ r ∈ rows, ok r.2.1 r.1
  dp : ∀ r ∈ rows, r.2.1 ≤ B.deep
theorem RI.snoc {B : Pr} {ok : Nat → NKey → Prop} {rows : List Rx} {r : Rx} (h : RI B ok rows) (l : rows.length < B.most) (u : ok r.2.1 r.1) (d : r.2.1 ≤ B.deep) : RI B ok (rows ++ [r]) := by
  have m : ∀ {p : Rx → Prop}, (∀ r ∈ rows, p r) → p r → ∀ q ∈ rows ++ [r], p q := fun h1 h2 q hq => by
    rcases List.mem_append.mp hq with hq | hq
    · exact h1 q hq
    · rw [List.mem_singleton.mp hq]; exact h2
  exact ⟨by rw [List.length_append]; have := h.l1; omega, by rw [List.length_append]; show rows.length + 1 ≤ _; omega, m h.us u, m h.dp d⟩
structure OkB (ok : Nat → NKey → Prop) (B : Pr) : Prop where
  ed : ∀ d k, ok d k → d < B.deep → ∀ x ∈ B.E k, ok (d + 1) x.2
  m1 : 1 ≤ B.most
  m2 : B.most ≤ 2000
def spSteps (K : PySem.W.Frag) (B : Pr) (ok : Nat → NKey → Prop) : Sp := fun vs H Q _ => ∃ v k d, vs = [v] ∧ NV K H v k ∧ ok d k ∧ d < B.deep ∧ ∀ p es H', Same H H' → H p = none → H' p = some (.lst es) → EdX K H' es (B.E k) → Q (.ref p) H'
def spSought (K : PySem.W.Frag) (B : Pr) (ok : Nat → NKey → Prop) : Sp := fun vs H Q _ => ∃ v k d, vs = [v] ∧ NV K H v k ∧ ok d k ∧ ∀ H', Same H H' → Q (.bl (B.goal k)) H'
def RetR (K : PySem.W.Frag) (H : Hp) (Q : VK) (rows : List Rx) (x : V) : Prop := ∀ z l vs H', Same H H' → H' z = some (.tup [.ref l, x]) → H' l = some (.lst vs) → RwX K H' vs rows → Q (.ref z) H'
theorem sm0 {H H1 : Hp} {p : Addr} (h : Same H H1) (n : H1 p = none) : H p = none := by
  cases q : H p with
  | none => rfl
  | some o => rw [h _ _ q] at n; cases n
/-- what is laid: the nodes of the rows -/
structure Laid (kvs : List (NKey × V)) (rows : List Rx) : Prop where
  mem : ∀ k : NKey, (valV kvs k).isSome = rows.any fun r => decide (r.1 = k)
  len : kvs.length = rows.length
theorem valV_snoc {κ : Type} [DecidableEq κ] {kvs : List (κ × V)} {k n : κ} {v : V} : (valV (kvs ++ [(k, v)]) n).isSome = ((valV kvs n).isSome || decide (k = n)) := by
  unfold valV
  rw [List.find?_append]
  cases e : kvs.find? (fun kv => decide (kv.1 = n)) with
  | some x => rfl
  | none =>
    by_cases h : k = n
    · rw [decide_eq_true h]
      simp [h]
    · rw [decide_eq_false h]
      simp [h]
theorem Laid.put {kvs : List (NKey × V)} {rows : List Rx} {r : Rx} {x : V} (h : Laid kvs rows) (f : (valV kvs r.1).isSome = false) : Laid (putK kvs r.1 x) (rows ++ [r]) := by
  have pk : putK kvs r.1 x = kvs ++ [(r.1, x)] := by
    unfold putK
    rw [if_neg]
    rw [valV_any, f]
    decide
  rw [pk]
  refine ⟨fun m => ?_, by rw [List.length_append, List.length_append, h.len]; rfl⟩
  rw [valV_snoc, h.mem m, List.any_append]
  congr 1
  show _ = (decide (r.1 = m) || false)
  rw [Bool.or_false]
theorem size2001 {n : Nat} (h : n ≤ 3000) : n < sizeLine := Nat.lt_of_le_of_lt h (by decide)
theorem drop_cons' {α : Type} {xs : List α} {i : Nat} {x : α} (h : xs[i]? = some x) : xs.drop i = x :: xs.drop (i + 1) := by
  obtain ⟨hi, e⟩ := List.getElem?_eq_some_iff.mp h
  rw [List.drop_eq_getElem_cons hi, e]
section
variable {P : Program} {w : World} {K : PySem.W.Frag} {H H' : Hp} {a : Addr} {kvs : List (NKey × V)} {v x : V} {k : NKey}
theorem nd_get (h : LK.ND P w K H a kvs) (n : NV K H v k) : LK.DGetX P w K H a v (valV kvs k) := let ⟨b, e, q⟩ := n; .inr ⟨kvs, k, b, h, e, q, rfl⟩
theorem nd_set {N : Hp → Prop} (h : LK.ND P w K H a kvs) (n : NV K H v k) (l : kvs.length < sizeLine) (hN : ∀ o, LK.ND P w K (upd H a o) a (putK kvs k x) → N (upd H a o)) : LK.DPutX P w K H a v x N := let ⟨b, e, q⟩ := n; .inr ⟨kvs, k, b, h, e, q, l, hN⟩
theorem nd_there (h : LK.ND P w K H a kvs) : ∃ o, H a = some o ∧ (∀ ys, o ≠ .tup ys) ∧ (∀ ys, o ≠ .lst ys) := by
  obtain ⟨xs, e, _⟩ := h.ex
  exact ⟨_, e, (fun _ z => nomatch z), (fun _ z => nomatch z)⟩
theorem nd_one {σ : L2.St} {Q : VK} {i : Nat} (hv : σ[i]? = some (some v)) (n : NV K H v k) (h : ∀ p H', Same H H' → H p = none → LK.ND P w K H' p [(k, x)] → Q (.ref p) H') : LK.tDisp1X P w K (tVar i) (tC x) σ H Q := by
  obtain ⟨b, rfl, g⟩ := n
  refine .inr fun p o np nd => ⟨_, hv, nd, k, b, rfl, g.keep fun c ys e => ?_, fun o' nd' => h p _ (fun c u e => ?_) np nd'⟩
  · rw [upd_ne (ne_of_none e np)]; exact e
  · rw [upd_ne (ne_of_none e np), upd_ne (ne_of_none e np)]
    exact e
end
/-- the state of a spread -/
structure SpI (P : Program) (w : World) (K : PySem.W.Frag) (H0 H : Hp) (ok : Nat → NKey → Prop) (B : Pr) (l d : Addr) (rows : List Rx) : Prop where
  sm : Same H0 H
  ri : RI B ok rows
  ls : ∃ vs, H l = some (.lst vs) ∧ RwX K H vs rows
  dx : ∃ kvs, LK.ND P w K H d kvs ∧ Laid kvs rows
  nl : H0 l = none
  nd : H0 d = none
  ld : l ≠ d
theorem SpI.keep {P : Program} {w : World} {K : PySem.W.Frag} {H0 H H' : Hp} {ok : Nat → NKey → Prop} {B : Pr} {l d : Addr} {rows : List Rx} (h : SpI P w K H0 H ok B l d rows) (s : Same H H') : SpI P w K H0 H' ok B l d rows := by
  obtain ⟨vs, h1, h2⟩ := h.ls
  obtain ⟨kvs, h3, h4⟩ := h.dx
  exact ⟨h.sm.trans s, h.ri, ⟨vs, s _ _ h1, h2.keep fun b ys => s _ _⟩, ⟨kvs, h3.keep (fun o => s _ _) fun b ys => s _ _, h4⟩, h.nl, h.nd, h.ld⟩
/-- a row is appended, its node laid -/
theorem SpI.add {P : Program} {w : World} {K : PySem.W.Frag} {H0 H H2 : Hp} {ok : Nat → NKey → Prop} {B : Pr} {l d a : Addr} {rows : List Rx} {r : Rx} {u dv : V} {o : HO} {vs : List V} {kvs : List (NKey × V)} (h : SpI P w K H0 H ok B l d rows) (hl : H l = some (.lst vs)) (hr : RwX K H vs rows) (hk : Laid kvs rows) (f : (valV kvs r.1).isSome = false)
    (dx1 : LK.ND P w K (upd H d o) d (putK kvs r.1 (.bl true))) (s2 : Same (upd H d o) H2) (ha : H2 a = some (.tup [u, .int ((r.2.1 : Nat) : Int), parV r.2.2.1, dv])) (nu : NV K H u r.1) (ndv : DV K H dv r.2.2.2) (lt : rows.length < B.most) (ru : ok r.2.1 r.1) (rd : r.2.1 ≤ B.deep)
    (tk : ∀ b ys, H b = some (.tup ys) → b ≠ d) : H2 l = some (.lst vs) ∧ SpI P w K H0 (upd H2 l (.lst (vs ++ [.ref a]))) ok B l d (rows ++ [r]) := by
  have hl2 : H2 l = some (.lst vs) := s2 _ _ (by rw [upd_ne h.ld]; exact hl)
  have t2 : ∀ b ys, H b = some (.tup ys) → upd H2 l (.lst (vs ++ [.ref a])) b = some (.tup ys) := fun b ys e => by
    have nb : b ≠ l := fun z => by rw [z, hl] at e; cases e
    rw [upd_ne nb]
    exact s2 _ _ (by rw [upd_ne (tk b ys e)]; exact e)
  have al : a ≠ l := fun z => by rw [z, hl2] at ha; cases ha
  refine ⟨hl2, ⟨fun b u e => ?_, h.ri.snoc lt ru rd, ⟨_, upd_same, RwX.snoc (hr.keep t2) (by rw [upd_ne al]; exact ha) (nu.keep t2) (ndv.keep t2)⟩, ⟨_, ?_, hk.put (x := .bl true) f⟩, h.nl, h.nd, h.ld⟩⟩
  · rw [upd_ne (ne_of_none e h.nl)]
    exact s2 _ _ (by rw [upd_ne (ne_of_none e h.nd)]; exact h.sm _ _ e)
  · refine dx1.keep (fun u e => ?_) fun b ys e => ?_
    · rw [upd_ne (Ne.symm h.ld)]
      exact s2 _ _ e
    · have nb : b ≠ l := fun z => by rw [z, upd_ne h.ld, hl] at e; cases e
      rw [upd_ne nb]
      exact s2 _ _ e
end BE

namespace L2
open PySem PySem.Spec PyProof.Rows
/-! ### texts joined, str of an int or a text -/
/-- the text that join tells -/
def jn (sep : Str) : List Str → Str
  | [x] => x
  | l => Builtin.Str.glued sep l
def rJoin (K : PySem.W.Frag) : V → List V → Hp → VK → Prop := fun z vs H Q => ∃ sep a ss, z = .str sep ∧ vs = [.ref a] ∧ SqL K H a (ss.map V.str) ∧ sep.length ≤ 10 ∧ ss.length ≤ 100 ∧ (∀ x ∈ ss, x.length ≤ 1000) ∧ Q (.str (jn sep ss)) H
section
variable {X : Cx}
/-- the text of an int or a text -/
def tx : V → Str
  | .int n => toString n
  | .str x => x
  | _ => Str.empty
def TxOk (v : V) : Prop := (∃ n : Nat, v = .int n ∧ n < 10 ^ 60) ∨ ∃ x, v = .str x ∧ x.length ≤ 100
end
end L2

namespace L2
open PySem PySem.Spec PyProof.Rows PySem.W
/-! ### try, with the names kept -/
/-- an exception of a callee that is called while the names are σ -/
def PassesAt (CX : CXT) (X : Cx) (σ : St) (E : XK) : Prop := ∀ (pins : List (Addr × Obj)) (H : Hp) (s : Shared) (e : Value) (s' : Shared), Inv X pins σ H s → CX X.stack H s E e s' → X.xe e s'
section
variable {X : Cx}
/-- as tTry, of a body that changes no name: the others stay -/
def tTryS (K : Frag) (i j : Nat) (Dc : Addr) (tb : St → XK → TS) : TS := fun D σ H => tb σ (fun cls dd H' => ∃ C, cls = .ref C ∧ ExK K C ∧ subIn K (.ref C) (.ref Dc) = some true ∧ ∀ a, H' a = none → D.nx (((σ.set i (some (.ref a))).set j (some (.ref a))).set i none) (upd H' a (excD a C dd))) D σ H
end
end L2
namespace L2
open PySem PySem.Spec PyProof.Rows
variable {X : Cx}
/-! ### a dict that is held still, read -/
def rSortDSR : List V → Hp → VK → Prop := fun xs H Q => ∃ a kvs, ∃ ss : List Str, xs = [.ref a] ∧ Rd H a (.dK kvs) ∧ kvs.map (·.1) = ss.map Sum.inr ∧ kvs.length < 64 ∧ ∀ (p : Addr) (ss' : List Str), ss'.Perm ss → sortedS ss' = true → H p = none → Q (.ref p) (upd H p (.lst (ss'.map V.str)))
def tListValsR (td : TE) : TE := fun σ H Q => td σ H fun x H1 => ∃ a kvs, x = .ref a ∧ Rd H1 a (.dK kvs) ∧ ∀ p, H1 p = none → Q (.ref p) (upd H1 p (.lst (kvs.map (·.2))))
end L2

namespace L2
open PySem PySem.Spec PyProof.Rows PySem.W
/-! ### try .. except D: .. (the error gets no name) -/
def tTryN (K : Frag) (Dc : Addr) (tb : St → XK → TS) (th : TS) : TS := fun D σ H => tb σ (fun cls _ H' => ∃ C, cls = .ref C ∧ ExK K C ∧ subIn K (.ref C) (.ref Dc) = some true ∧ th D σ H') D σ H
section
variable {X : Cx}
end
end L2

namespace L2
open PySem PySem.Spec PyProof.Rows
/-! ### heaps that grow, in which dicts may come to be held still -/
def Fz (H H' : Hp) : Prop := ∀ b o, H b = some o → H' b = some o ∨ ∃ ob kvs, o = .dK kvs ∧ H' b = some (.frz ob (.dK kvs))
/-- d is held still, all else is as it was -/
def Hld (d : Addr) (ob : Obj) (kvs : List (Key × V)) (H H' : Hp) : Prop := H' d = some (.frz ob (.dK kvs)) ∧ (∀ b, b ≠ d → H' b = H b) ∧ (H d = some (.dK kvs) ∨ H d = some (.frz ob (.dK kvs)))
section
variable {X : Cx}
/-- a dict walked that may be held still already -/
def iDictR (tl : TE) : TI := fun σ H R => tl σ H fun x H1 => ∃ d kvs, x = .ref d ∧ Rd H1 d (.dK kvs) ∧ ∀ ob H2, Hld d ob kvs H1 H2 → R (Itd d ob kvs) H2
/-! ### dict(d), isinstance(d, dict) -/
def rDictD : List V → Hp → VK → Prop := fun xs H Q => ∃ a kvs, xs = [.ref a] ∧ Rd H a (.dK kvs) ∧ ∀ p, H p = none → Q (.ref p) (upd H p (.dK kvs))
/-! ### == and != of dicts that tell the same -/
/-- each value of the one is told by the other -/
def DDeq (K : PySem.W.Frag) (H : Hp) (ka kb : List (Key × V)) : Prop := ka.length = kb.length ∧ ∀ kv ∈ ka, ∃ v' d, valV kb kv.1 = some v' ∧ Dv K H 30 kv.2 d ∧ Dv K H 30 v' d
def rNeDD (K : PySem.W.Frag) : R2 := fun x y H Q => ∃ a b ka kb, x = .ref a ∧ y = .ref b ∧ Rd H a (.dK ka) ∧ Rd H b (.dK kb) ∧ DDeq K H ka kb ∧ Q (.bl false) H
def rEqDD (K : PySem.W.Frag) : R2 := fun x y H Q => ∃ a b ka kb, x = .ref a ∧ y = .ref b ∧ Rd H a (.dK ka) ∧ Rd H b (.dK kb) ∧ DDeq K H ka kb ∧ Q (.bl true) H
end
end L2

namespace L2
open PySem PySem.Spec PyProof.Rows
/-! ### != of two lists of dicts that tell the same, at one program -/
/-- the two are equal, at this program -/
def EqIn (P : Program) (w : World) (A : Around) (s : Shared) (y x : Value) : Prop := ∀ (E : Value → Shared → Prop) (Q : Bool → Shared → Prop), Q true s → wpAny (model P w) A (eqBool y x) Q E s
section
open AutoSeq1 MeetsSeq MeetsSeq2 MeetsSeq3 SeqAt
variable {P : Program} {w : World}
end
section
variable {X : Cx}
def rNeLD (K : PySem.W.Frag) : R2 := fun x y H Q => ∃ a b xs ys, x = .ref a ∧ y = .ref b ∧ SqL K H a xs ∧ SqL K H b ys ∧ xs.length = ys.length ∧
  (∀ (j : Nat) x y, xs[j]? = some x → ys[j]? = some y → ∃ da db ka kb, x = .ref da ∧ y = .ref db ∧ Rd H da (.dK ka) ∧ Rd H db (.dK kb) ∧ DDeq K H ka kb) ∧ Q (.bl false) H
end
end L2

namespace HT
open PySem PyProof.Rows
/-- t < u of tuples of texts -/
def lexLtS : List Str → List Str → Bool
  | [], [] => false
  | [], _ :: _ => true
  | _ :: _, [] => false
  | x :: xs, y :: ys => if x = y then lexLtS xs ys else decide (x.cps.toList < y.cps.toList)
section
open PySem.SeqAt
open PySem.AutoSeq1 (wpAny_loadPart')
open PySem.MeetsSeq PySem.MeetsSeq2 PySem.MeetsSeq3

end

section
variable {prog : Program} {w : World} {A : Around} {E : Value → Shared → Prop} {s : Shared}

end
end HT
namespace L2
open PySem PySem.Spec PyProof.Rows
section
variable {X : Cx}
def rLtTS (K : PySem.W.Frag) : R2 := fun x y H Q => ∃ a b ns ms, x = .ref a ∧ y = .ref b ∧ SqT K H a (ns.map V.str) ∧ SqT K H b (ms.map V.str) ∧ Q (.bl (HT.lexLtS ns ms)) H
end
end L2

namespace HT
open PySem PySem.Spec PyProof.Rows
section
variable {prog : Program} {w : World} {A : Around} {E : Value → Shared → Prop} {s : Shared}
end
end HT
namespace L2
open PySem PySem.Spec PyProof.Rows
section
variable {X : Cx}
/-- () + u -/
def rCatT0 (K : PySem.W.Frag) : R2 := fun x y H Q => ∃ a b ys, x = .ref a ∧ y = .ref b ∧ SqT K H a [] ∧ SqT K H b ys ∧ Q (.ref b) H
/-- t + u, whatever t is -/
def rCatTA (K : PySem.W.Frag) : R2 := fun x y H Q => rCatT0 K x y H Q ∨ rCatT K x y H Q
/-- t * k, t not empty, k from 2 on -/
def rRepT (K : PySem.W.Frag) : R2 := fun x y H Q => ∃ a k xs, x = .ref a ∧ y = .int k ∧ SqT K H a xs ∧ xs ≠ [] ∧ 2 ≤ k ∧ k ≤ 1000 ∧ xs.length ≤ 1000 ∧ ∀ p, H p = none → Q (.ref p) (upd H p (.tup (List.replicate k.toNat xs).flatten))
end
end L2

namespace L2
open PySem PySem.Spec PyProof.Rows
/-! ### for over range(a, b, c) -/
def Itr3 (lo c : Int) (n : Nat) : It := ⟨fun i _ => i < n, fun i H x H' => H' = H ∧ x = .int (lo + (i : Nat) * c), fun i _ => n ≤ i⟩
def iRng3 (ta : TA) : TI := fun σ H R => ta σ H fun vs H1 => ∃ i j c : Int, vs = [.int i, .int j, .int c] ∧ (-(2 ^ 20) ≤ i ∧ i ≤ 2 ^ 20 ∧ -(2 ^ 20) ≤ j ∧ j ≤ 2 ^ 20 ∧ 0 < c ∧ c ≤ 2 ^ 20) ∧ R (Itr3 i c (if i < j then (j - i - 1) / c + 1 else 0).toNat) H1
end L2

namespace L2
open PySem PySem.Spec PyProof.Rows
/-! ### sorted(xs, reverse=True) of ints -/
def tSortR (K : PySem.W.Frag) (te : TE) : TE := fun σ H Q => te σ H fun x H1 => ∃ (a : Addr) (ns : List Int), x = .ref a ∧ SqL K H1 a (ns.map V.int) ∧ ns.length < 64 ∧
  ∀ (p : Addr) (ns' : List Int), ns'.Perm ns → ns'.Pairwise (· ≥ ·) → H1 p = none → Q (.ref p) (upd H1 p (.lst (ns'.map V.int)))
/-! ### for over reversed(range(n)) -/
abbrev rngObj (n : Int) (t u v : Tok) : Obj := { cls := .type "range", data := .fields #[.int 0 t, .int n u, .int 1 v] }
abbrev rngIt (n : Int) : Obj := { cls := .type "range_iterator", data := .fields #[rawInt (n - 1), rawInt n, rawInt (-1)] }
section
variable {prog : Program} {w : World} {A : Around} {E : Value → Shared → Prop} {s : Shared}
end
def iRev (ta : TA) : TI := fun σ H R => ta σ H fun vs H1 => ∃ n : Int, vs = [.int n] ∧ 0 ≤ n ∧ n < 2 ^ 62 ∧ R (Itr3 (n - 1) (-1) n.toNat) H1
end L2

namespace L2
open PySem PySem.Spec PyProof.Rows
/-! ### for over reversed(a list) -/
def Itv (K : PySem.W.Frag) (a : Addr) (n : Nat) : It :=
  ⟨fun i H => ∃ xs, SqL K H a xs ∧ xs.length = n ∧ i < n, fun i H x H' => H' = H ∧ ∀ xs, SqL K H a xs → xs[n - 1 - i]? = some x, fun i H => n ≤ i⟩
def iRevL (K : PySem.W.Frag) (ta : TA) : TI := fun σ H R => ta σ H fun vs H1 => ∃ a xs, vs = [.ref a] ∧ SqL K H1 a xs ∧ R (Itv K a xs.length) H1
end L2

namespace L2
open PySem PySem.Spec PyProof.Rows
end L2

namespace L2
open PySem PySem.Spec PyProof.Rows
end L2

namespace L2
open PySem PySem.Spec PyProof.Rows PySem.W
/-- a def of the text that may be called by its name with its last argument left out -/
structure Cal1 (P : Program) (w : World) (K : Frag) (mg : Str → Option Value) (base : Heap) (CX : CXT) (k : Nat) (x : Str) (ps : List Str) (sp : Sp) (dv : V) : Prop where
  ex : ∃ (f : Addr) (fd : FuncData) (u : Value), mg x = some (.ref f) ∧ keepIn K (.ref f) = true ∧ Binds K fd ps [u] ∧ RelV dv u ∧ FnOk P w K mg base CX k f fd ps sp
end L2

namespace L2
open PySem PySem.Spec PyProof.Rows
/-! ### loops whose turns know nothing of what comes behind -/
theorem for_listN {K : PySem.W.Frag} {a : Addr} {xs : List V} {g : TG} {tb : TS} {D : Ends} {σ : St} {H : Hp} (Pv : Nat → St → Hp → Prop) (h0 : Pv 0 σ H) (hl : ∀ i σ H, i ≤ xs.length → Pv i σ H → SqL K H a xs)
    (hs : ∀ i x σ H (D' : Ends), (∀ σ' H', Pv (i + 1) σ' H' → D'.nx σ' H') → xs[i]? = some x → Pv i σ H → g x σ H (tb D')) (hd : ∀ σ H, Pv xs.length σ H → D.nx σ H) :
    ∃ W : Nat → Nat → St → Hp → Prop, (∃ m, W 0 m σ H) ∧ ∀ i m σ H, W i m σ H →
      ((Itl K a).stop i H ∧ D.nx σ H) ∨ ((Itl K a).go i H ∧ ∃ N : St → Hp → Prop, (∀ σ' H', N σ' H' → ∃ m', m' < m ∧ W (i + 1) m' σ' H') ∧ ∀ x H', (Itl K a).yld i H x H' → g x σ H' fun σ2 H2 => tb { D with nx := N, ct := N, bk := D.nx } σ2 H2) :=
  for_list Pv h0 hl (fun i x σ H hx p => hs i x σ H { D with nx := Pv (i + 1), ct := Pv (i + 1), bk := D.nx } (fun _ _ h => h) hx p) hd
theorem for_rangeN {lo : Int} {n : Nat} {g : TG} {tb : TS} {D : Ends} {σ : St} {H : Hp} (Pv : Nat → St → Hp → Prop) (h0 : Pv 0 σ H)
    (hs : ∀ i σ H (D' : Ends), (∀ σ' H', Pv (i + 1) σ' H' → D'.nx σ' H') → i < n → Pv i σ H → g (.int (lo + i)) σ H (tb D')) (hd : ∀ σ H, Pv n σ H → D.nx σ H) :
    ∃ W : Nat → Nat → St → Hp → Prop, (∃ m, W 0 m σ H) ∧ ∀ i m σ H, W i m σ H →
      ((Itr lo n).stop i H ∧ D.nx σ H) ∨ ((Itr lo n).go i H ∧ ∃ N : St → Hp → Prop, (∀ σ' H', N σ' H' → ∃ m', m' < m ∧ W (i + 1) m' σ' H') ∧ ∀ x H', (Itr lo n).yld i H x H' → g x σ H' fun σ2 H2 => tb { D with nx := N, ct := N, bk := D.nx } σ2 H2) :=
  for_range Pv h0 (fun i σ H hi p => hs i σ H { D with nx := Pv (i + 1), ct := Pv (i + 1), bk := D.nx } (fun _ _ h => h) hi p) hd
end L2

namespace K64
open PySem PySem.Spec PyProof.Rows L2 GM TM BF BE
def top (i : Nat) : Stmt := PySem.Challenge.pw_phialhouse_k64_whole_strength_asked.main.body.getD i (.Pass ⟨0, 0, 0, 0⟩)
abbrev sIsWh : Stmt := top 6
abbrev sGcd : Stmt := top 7
abbrev sLow : Stmt := top 8
abbrev sAmount : Stmt := top 9
abbrev sPlus : Stmt := top 10
abbrev sTimes : Stmt := top 11
abbrev sOver : Stmt := top 12
abbrev sSpread : Stmt := top 14
abbrev sWayTo : Stmt := top 15
abbrev sSteps : Stmt := top 18
abbrev sStr : Stmt := top 19
abbrev sAskedFor : Stmt := top 20
abbrev sStrOf : Stmt := top 21
abbrev sRising : Stmt := top 22
abbrev sCell : Stmt := top 24
abbrev sWhole : Stmt := top 25
abbrev sMixed : Stmt := top 26
abbrev sDiv : Stmt := top 27
abbrev sLlow : Stmt := top 28
abbrev sMxs : Stmt := top 29
abbrev sLstr : Stmt := top 30
abbrev sMeas : Stmt := top 31
abbrev sLWalks : Stmt := top 32
abbrev sLIsIt : Stmt := top 33
abbrev sLMade : Stmt := top 34
abbrev sLListed : Stmt := top 35
abbrev sLAsked : Stmt := top 36
abbrev sMby : Stmt := top 37
abbrev sLaw : Stmt := top 38
abbrev sInit : Stmt := inClass (top 3) 0
structure Txt (mg : Str → Option Value) : Prop where
  isi : mg "isinstance" = none
  int' : mg "int" = none
  bool' : mg "bool" = none
  tup' : mg "tuple" = none
  str' : mg "str" = none
  len : mg "len" = none
  range : mg "range" = none
  min' : mg "min" = none
  abs' : mg "abs" = none
  list' : mg "list" = none
  val : mg "ValueError" = none
  max' : mg "max" = none
  sum' : mg "sum" = none
  sorted' : mg "sorted" = none
structure ErM (K : PySem.W.Frag) (mg : Str → Option Value) (cP cM fI : Addr) : Prop where
  ef : ExF K cM cP fI "most"
  ct : CtK K cM
  bi : BaseI K cP
  s : PySem.W.subIn K (.ref cM) (.ref cM) = some true
  iP : PySem.W.kitOne K (.ref cM) (.ref cP) = some true
  iV : PySem.W.kitOne K (.ref cM) (.type "ValueError") = some true
  mP : mg "PhialError" = some (.ref cP)
  mM : mg "TooMany" = some (.ref cM)
theorem lenC (x : Str) : x.length = (cps x).length := by simp [Str.length, cps]
theorem lenA (x y : Str) : (x ++ y).length = x.length + y.length := by rw [lenC, cps_append', List.length_append, ← lenC, ← lenC]
theorem cpsT (t : Nat) : cps ((toString (t : Int) : String) : Str) = dg t := PySem.W.KIN.signs_num t
theorem logT {t : Nat} (h : t < 10 ^ 60) : ((t : Int)).natAbs.log2 < 1920 := by
  rw [Int.natAbs_natCast]
  by_cases z : t = 0
  · subst z
    decide
  · exact (Nat.log2_lt z).mpr (Nat.lt_trans h (by decide +kernel))
theorem row_len {n : Nat} (h : n < 10000) : ((toString (n : Int) : String) : Str).length ≤ 60 := by
  rw [lenC, cpsT]
  exact dg_len (Nat.lt_trans h (by decide +kernel))
def spInit (c : Addr) : Sp := fun vs H Q _ => ∃ (e : Addr) (n : Nat), vs = [.ref e, .int (n : Nat)] ∧ n < 10000 ∧ H e = some (exN e c none) ∧ ∀ dx, H dx = none → dx ≠ e → Q .non (upd (upd H e (exN e c (some dx))) dx (xdE dx [("most", .int (n : Nat))]))
/-- refused: too many, with this number -/
def BadM (c : Addr) (n : Nat) (H : Hp) (E : XK) : Prop := ∀ dx H', Same H H' → H' dx = some (xdE dx [("most", .int (n : Nat))]) → E (.ref c) (some dx) H'
theorem BadM.mono {c : Addr} {n : Nat} {H H1 : Hp} {E : XK} (h : BadM c n H E) (s : Same H H1) : BadM c n H1 E := fun dx H' s' hd => h dx H' (s.trans s') hd
theorem raiseM {c : Addr} {n : Nat} {H : Hp} {E : XK} (rv : n < 10000) (h : BadM c n H E) : [V.int (n : Nat)].length ≤ sizeLine ∧ ∀ e, H e = none → spInit c [.ref e, .int (n : Nat)] (upd H e (exN e c none)) (fun v H2 => v = .non ∧ ∃ dd, H2 e = some (exN e c dd) ∧ E (.ref c) dd (rem H2 e)) E0 := by
  refine ⟨(by show 1 ≤ sizeLine; decide), fun e he => ⟨e, n, rfl, rv, upd_same, fun dx hd ne => ⟨rfl, some dx, ?_, ?_⟩⟩⟩
  · rw [upd_ne (Ne.symm ne), upd_same]
  · have hd' : H dx = none := by
      rw [upd_ne ne] at hd
      exact hd
    refine h dx _ (fun b o hb => ?_) ?_
    · have n1 : b ≠ e := fun z => by rw [z, he] at hb; cases hb
      have n2 : b ≠ dx := fun z => by rw [z, hd'] at hb; cases hb
      rw [rem_ne n1, upd_ne n2, upd_ne n1, upd_ne n1]
      exact hb
    · rw [rem_ne ne, upd_same]
section
variable {P : Program} {w : World} {K : PySem.W.Frag} {mg : Str → Option Value} {base : Heap} {cP cM fI : Addr}
theorem scInit : FnScope ["self", "most"] ["self", "most"] (defScope sInit) := ⟨rfl, rfl, rfl, by decide +kernel, rfl, by decide +kernel, by decide +kernel⟩
theorem ok_init {f : Addr} {fd : FuncData} (F : Fun K "__init__" "TooMany.__init__" sInit f fd) (R : ErM K mg cP cM fI) : FnOk P w K mg base CX0 1 f fd ["self", "most"] (spInit cM) := by
  refine F.ok scInit (fun vs H Q E h => ?_) (fun cdv A outer s H vs Q E hr h => ?_)
  · obtain ⟨_, _, rfl, _⟩ := h
    rfl
  · obtain ⟨e, n, rfl, hn, he, k⟩ := h
    refine ⟨_, pss_cons (ps_expr (pe_binit rfl R.mP R.bi (pa_cons (pv 0) (pa_cons (pe_join (pj_cons pe_str (pj_cons (pe_fmt (pv 1)) pj_nil))) pa_nil))))
      (pss_one (ps_exN (C := cM) (P := cP) (f := fI) rfl (pv 0) (pv 1) rfl)), ?_⟩
    have hl := row_len hn
    have l1 : ("there are more rows than " : Str).length = 25 := by decide +kernel
    refine ⟨_, rfl, _, rfl, ?_, _, rfl, _, ⟨logT (Nat.lt_trans hn (by decide +kernel)), rfl⟩, _, rfl, ?_, ?_, e, cM, none, fI, _, rfl, he, R.ef.i, ?_⟩
    · exact sz1000 (by rw [lenA, l1]; show 0 + 25 ≤ 1000; decide)
    · exact sz1000 (by rw [lenA, lenA, l1]; show 0 + 25 + _ ≤ 1000; omega)
    · exact sz1000 (by rw [lenA, lenA, l1]; show 0 + 25 + _ ≤ 1000; omega)
    exact ⟨_, rfl, _, rfl, e, rfl, he, R.ef, fun dx hd ne => k dx hd ne⟩
end
end K64

namespace K64
open PySem PySem.Spec PyProof.Rows L2 GM TM BF BE
/-! ### spread -/
def OutR (K : PySem.W.Frag) (cM : Addr) (most : Nat) (H : Hp) (Q : VK) (E : XK) : Rz → Prop
  | .found rows => BE.RetR K H Q rows (.int ((rows.length : Nat) - 1 : Int))
  | .none rows => BE.RetR K H Q rows .non
  | .many => BadM cM most H E
def spSpread (P : Program) (w : World) (K : PySem.W.Frag) (mg : Str → Option Value) (base : Heap) (cM : Addr) : Sp := fun vs H Q E => ∃ v0 fs fg k0 ok B, vs = [v0, .ref fs, .ref fg, .int ((B.deep : Nat) : Int), .int ((B.most : Nat) : Int)] ∧ OkB ok B ∧ NV K H v0 k0 ∧ ok 0 k0 ∧
  Clo P w K mg base CX0 5 H fs (spSteps K B ok) ∧ Clo P w K mg base CX0 5 H fg (spSought K B ok) ∧ OutR K cM B.most H Q E (BE.bfs B k0)
section
variable {P : Program} {w : World} {K : PySem.W.Frag} {mg : Str → Option Value} {base : Heap} {cP cM fI : Addr}
abbrev Nsp : List Str := ["first", "steps", "sought", "deepest", "most", "rows", "laid", "place", "here", "deed", "node"]
theorem scSp : FnScope Nsp ["first", "steps", "sought", "deepest", "most"] (defScope sSpread) := ⟨rfl, rfl, rfl, by decide +kernel, rfl, by decide +kernel, by decide +kernel⟩
theorem ok_spread {f dT : Addr} {fdI : FuncData} {oc kV doc pm cdv ct : Value} {od an : Option Addr} {osl : Array (Option Value)} (lk : K.lookup f = some ⟨oc, od, .func (PySem.W.fnOf "spread" "spread" (defArgs sSpread) (defBody sSpread) (defScope sSpread) (.ref dT) kV doc pm an cdv ct), osl⟩) (hcd : PySem.W.codeIn K cdv "spread" = true)
    (T : Txt mg) (R : ErM K mg cP cM fI) (FI : FnOk P w K mg base CX0 1 fI fdI ["self", "most"] (spInit cM)) (bI : Binds K fdI ["self", "most"] []) :
    FnOk P w K mg base (CXg P w) 7 f (PySem.W.fnOf "spread" "spread" (defArgs sSpread) (defBody sSpread) (defScope sSpread) (.ref dT) kV doc pm an cdv ct) ["first", "steps", "sought", "deepest", "most"] (spSpread P w K mg base cM) := by
  refine fn_of lk hcd scSp (fun vs H Q E h => ?_) fun A oo s H vs Q E hr hsp => ?_
  · obtain ⟨_, _, _, _, _, _, rfl, _⟩ := h
    rfl
  · obtain ⟨v0, fs, fg, k0, ok, B, rfl, ob, n0, h0, cS, cG, out⟩ := hsp
    refine ⟨_, (pss_cons (ps_set (i := 5) scSp.nd rfl (Or.inl rfl) (pe_lst (pa_cons (pe_tup (pa_cons (pv 0) (pa_cons pe_int (pa_cons pe_non (pa_cons pe_non pa_nil))))) pa_nil)))
      (pss_cons (ps_if (pt_val (pe_clo (i := 2) (k := 5) (hr.mono (by decide)) pass0 rfl rfl (pa_cons (pv 0) pa_nil)))
        (pss_one (ps_ret (pe_tup (pa_cons (pv 5) (pa_cons pe_int pa_nil)))))
        pss_nil)
      (pss_cons (ps_set (i := 6) scSp.nd rfl (Or.inl rfl) (LK.pe_disp1X (Nat.lt_of_le_of_lt (Nat.add_le_add_left (by decide : 1 ≤ 64) _) hr.units) (pv 0) pe_bl))
      (pss_cons (ps_set (i := 7) scSp.nd rfl (Or.inl rfl) pe_int)
      (pss_cons (ps_while PassesOwn.leaving (PW.pt (pw_and (pt_cmpR op_lt (pv 7) (pe_callB call_len_seq rfl T.len PySem.boot_len (pa_cons (pv 5) pa_nil)) (nomark _)) (pw_and1 (pt_cmpR op_lt (pe_ix ix_tup (pe_ix ix_list (pv 5) (pv 7) (fun _ _ => rfl)) pe_int (fun _ _ => rfl)) (pv 3) (nomark _)))))
        (pss_cons (ps_set (i := 8) scSp.nd rfl (Or.inl rfl) (pe_ix ix_list (pv 5) (pv 7) (fun _ _ => rfl)))
        (pss_cons (ps_for PassesOwn.leaving rfl (pi_list (pe_clo (i := 1) (k := 5) (hr.mono (by decide)) pass0 rfl rfl (pa_cons (pit 8 0) pa_nil))) (pg_tup rfl (pgs_cons (pg_name (i := 9) scSp.nd rfl (Or.inl rfl)) (pgs_cons (pg_name (i := 10) scSp.nd rfl (Or.inl rfl)) pgs_nil)))
          (pss_one (ps_if (pt_cmp (LK.pc_dnotinX (Nat.lt_of_le_of_lt (Nat.add_le_add_left (by decide : 2 ≤ 64) _) hr.units) (pv 10) (pv 6)))
            (pss_cons (ps_if (pt_cmpR op_ge (pe_callB call_len_seq rfl T.len PySem.boot_len (pa_cons (pv 5) pa_nil)) (pv 4) (nomark _))
              (pss_one (ps_raiseI (k := 1) rfl xe_f rfl (hr.mono (by decide)) rfl R.mM R.ef.i FI bI (pa_cons (pv 4) pa_nil)))
              pss_nil)
            (pss_cons (LK.ps_dputX (Nat.lt_of_le_of_lt (Nat.add_le_add_left (by decide : 2 ≤ 64) _) hr.units) (pv 6) (pv 10) pe_bl rfl)
            (pss_cons (ps_expr (pe_bm PySem.F.plainAttrs_list PySem.F.slot_list_append PySem.F.type_list_append mt_append (pv 5) (pa_cons (pe_tup (pa_cons (pv 10) (pa_cons (pe_op op_add (pit 8 1) pe_int) (pa_cons (pv 7) (pa_cons (pv 9) pa_nil))))) pa_nil)))
            (pss_one (ps_if (pt_val (pe_clo (i := 2) (k := 5) (hr.mono (by decide)) pass0 rfl rfl (pa_cons (pv 10) pa_nil)))
              (pss_one (ps_ret (pe_tup (pa_cons (pv 5) (pa_cons (pe_op op_sub (pe_callB call_len_seq rfl T.len PySem.boot_len (pa_cons (pv 5) pa_nil)) pe_int) pa_nil)))))
              pss_nil)))))
            pss_nil)))
        (pss_one (ps_aug (i := 7) scSp.nd rfl (Or.inl rfl) pe_int ip_add)))))
      (pss_one (ps_ret (pe_tup (pa_cons (pv 5) (pa_cons pe_non pa_nil)))))))))), ?_⟩
    -- the first row
    refine ⟨_, rfl, (by show 4 ≤ sizeLine; decide), fun z0 nz0 => ⟨(by show 1 ≤ sizeLine; decide), fun l nl => ?_⟩⟩
    have s1 := Same.upd (o := .tup [v0, .int 0, .non, .non]) nz0
    have s2 := Same.upd (o := .lst [.ref z0]) nl
    have nl0 : H l = none := BE.sm0 s1 nl
    have hl1 : upd (upd H z0 (.tup [v0, .int 0, .non, .non])) l (.lst [.ref z0]) l = some (.lst [.ref z0]) := upd_same
    have hz1 : upd (upd H z0 (.tup [v0, .int 0, .non, .non])) l (.lst [.ref z0]) z0 = some (.tup [v0, .int 0, .non, .non]) := s2 _ _ upd_same
    have s01 := s1.trans s2
    generalize upd (upd H z0 (.tup [v0, .int 0, .non, .non])) l (.lst [.ref z0]) = H1 at s01 hl1 hz1 ⊢
    have n1 := n0.keep fun b ys => s01 _ _
    have rw1 : RwX K H1 [.ref z0] [(k0, 0, none, none)] := .cons ⟨z0, v0, .non, rfl, hz1, n1, rfl⟩ .nil
    refine ⟨fg, rfl, (cG.keep s01).fn, _, rfl, spSought K B ok, cG.keep s01, v0, k0, 0, rfl, n1, h0, fun H2 s12 => ⟨_, rfl, ?_⟩⟩
    have s02 := s01.trans s12
    cases hg : B.goal k0 with
    | true =>
      unfold BE.bfs at out
      rw [if_pos hg] at out
      refine iteT ⟨_, rfl, (by show 2 ≤ sizeLine; decide), fun z nz => ?_⟩
      have s3 := Same.upd (o := .tup [.ref l, .int 0]) nz
      exact out z l _ _ (s02.trans s3) upd_same (s3 _ _ (s12 _ _ hl1)) ((rw1.keep fun b ys => s12 _ _).keep fun b ys => s3 _ _)
    | false =>
      unfold BE.bfs at out
      rw [if_neg (by rw [hg]; decide)] at out
      refine iteF ?_
      refine BE.nd_one (x := .bl true) rfl (n0.keep fun b ys => s02 _ _) fun d H3 s23 nd3 dx3 => ?_
      have s03 := s02.trans s23
      have ld : l ≠ d := fun z => by rw [← z, s12 _ _ hl1] at nd3; cases nd3
      have sp0 : BE.SpI P w K H H3 ok B l d [(k0, 0, none, none)] := by
        refine ⟨s03, ⟨Nat.le_refl _, ob.m1, fun r hr => ?_, fun r hr => ?_⟩, ⟨_, (s12.trans s23) _ _ hl1, (rw1.keep fun b ys => s12 _ _).keep fun b ys => s23 _ _⟩, ⟨_, dx3, ⟨fun n => ?_, rfl⟩⟩, nl0, BE.sm0 s02 nd3, ld⟩
        · rw [List.mem_singleton.mp hr]; exact h0
        · rw [List.mem_singleton.mp hr]; exact Nat.zero_le _
        · unfold valV
          by_cases e : k0 = n
          · simp [e]
          · simp [e]
      let W : Nat → L2.St → Hp → Prop := fun m σ' H' => ∃ (rows : List Rx) (p : Nat) (v8 v9 v10 : Option V), σ' = [some v0, some (.ref fs), some (.ref fg), some (.int ((B.deep : Nat) : Int)), some (.int ((B.most : Nat) : Int)), some (.ref l), some (.ref d), some (.int ((p : Nat) : Int)), v8, v9, v10] ∧ m = B.most + 1 - p ∧ p ≤ rows.length ∧ BE.SpI P w K H H' ok B l d rows ∧ BE.outer B (B.most + 1 - p) rows p = BE.outer B (B.most + 1) [(k0, 0, none, none)] 0
      refine ⟨W, ⟨_, [(k0, 0, none, none)], 0, none, none, none, rfl, rfl, Nat.zero_le _, sp0, rfl⟩, ?_⟩
      rintro m σ' H4 ⟨rows, p, v8, v9, v10, rfl, rfl, pl, sp, eq⟩
      obtain ⟨vs, hl4, rw4⟩ := sp.ls
      have vl := BE.RwX.len rw4
      have lm := sp.ri.lm
      -- behind the loop
      have fin : BE.outer B (B.most + 1 - p) rows p = .none rows → ∀ z, H4 z = none → Q (.ref z) (upd H4 z (.tup [.ref l, .non])) := fun e z nz => by
        have e2 := eq.symm.trans e
        rw [e2] at out
        have s5 := Same.upd (o := .tup [.ref l, .non]) nz
        exact out z l vs _ (sp.sm.trans s5) upd_same (s5 _ _ hl4) (rw4.keep fun b ys => s5 _ _)
      have fu : B.most + 1 - p = (B.most - p) + 1 := by omega
      refine ⟨_, rfl, _, rfl, l, vs, rfl, .inl (SqL.of hl4), _, _, rfl, rfl, _, rfl, ?_⟩
      by_cases pr : p < rows.length
      rotate_left
      · have e0 : decide (((p : Nat) : Int) < ((vs.length : Nat) : Int)) = false := decide_eq_false (by omega)
        rw [e0]
        refine iteF (iteF ?_)
        exact ⟨_, rfl, (by show 2 ≤ sizeLine; decide), fun z nz => fin (by rw [fu]; exact BE.outer_end (by omega)) z nz⟩
      have e0 : decide (((p : Nat) : Int) < ((vs.length : Nat) : Int)) = true := decide_eq_true (by omega)
      rw [e0]
      refine iteT ?_
      obtain ⟨r, hr4⟩ : ∃ r, rows[p]? = some r := ⟨_, List.getElem?_eq_getElem pr⟩
      obtain ⟨_, hv4, ra, ru, rdv, rfl, hra, nru, ndr⟩ := paired_at rw4 hr4
      have rm : r ∈ rows := List.mem_of_getElem? hr4
      refine ⟨_, rfl, _, rfl, l, _, (p : Int), .ref ra, rfl, rfl, SqL.of hl4, atI_nat hv4, ra, _, 1, .int ((r.2.1 : Nat) : Int), rfl, rfl, SqT.of hra, rfl, _, rfl, _, _, rfl, rfl, _, rfl, ?_⟩
      have step := BE.outer_at (B := B) (n := B.most - p) hr4
      rw [← fu] at step
      by_cases dd : r.2.1 < B.deep
      rotate_left
      · have e1 : decide (((r.2.1 : Nat) : Int) < ((B.deep : Nat) : Int)) = false := decide_eq_false (by omega)
        rw [e1]
        refine iteF ?_
        exact ⟨_, rfl, (by show 2 ≤ sizeLine; decide), fun z nz => fin (by rw [step, if_neg dd]) z nz⟩
      have e1 : decide (((r.2.1 : Nat) : Int) < ((B.deep : Nat) : Int)) = true := decide_eq_true (by omega)
      rw [e1]
      rw [if_pos dd, eq] at step
      refine iteT ⟨W (B.most + 1 - (p + 1)), fun σ'' H'' h => ⟨_, by omega, h⟩, ?_⟩
      refine ⟨_, rfl, _, rfl, l, _, (p : Int), .ref ra, rfl, rfl, SqL.of hl4, atI_nat hv4, ?_⟩
      refine ⟨fs, rfl, (cS.keep sp.sm).fn, ra, _, _, rfl, SqT.of hra, rfl, spSteps K B ok, cS.keep sp.sm, ru, r.1, r.2.1, rfl, nru, sp.ri.us r rm, dd, fun q es H5 s45 nq hq ed5 => ?_⟩
      generalize exs : B.E r.1 = xs at step ed5
      have xl : es.length = xs.length := Paired.length ed5
      have lq : q ≠ l := fun z => by rw [z, hl4] at nq; cases nq
      have dq : q ≠ d := fun z => by
        obtain ⟨kvs, dx, _⟩ := sp.dx
        obtain ⟨o, ho, _⟩ := BE.nd_there dx
        rw [z, ho] at nq; cases nq
      refine ⟨q, rfl, ⟨es, SqL.of hq⟩, ?_⟩
      refine for_list (xs := es) (fun i σ' H' => ∃ (rs : List Rx) (v9 v10 : Option V), σ' = [some v0, some (.ref fs), some (.ref fg), some (.int ((B.deep : Nat) : Int)), some (.int ((B.most : Nat) : Int)), some (.ref l), some (.ref d), some (.int ((p : Nat) : Int)), some (.ref ra), v9, v10] ∧ rows.length ≤ rs.length ∧ BE.SpI P w K H H' ok B l d rs ∧ H' q = some (.lst es) ∧ EdX K H' es xs ∧ H' ra = some (.tup [ru, .int ((r.2.1 : Nat) : Int), parV r.2.2.1, rdv]) ∧ BE.inner B p r.2.1 rs (xs.drop i) = BE.inner B p r.2.1 rows xs)
        ⟨rows, v9, v10, rfl, Nat.le_refl _, sp.keep s45, hq, ed5, s45 _ _ hra, rfl⟩ ?_ ?_ ?_
      · rintro i σ' H' _ ⟨rs, _, _, _, _, _, hq', _⟩
        exact SqL.of hq'
      rotate_left
      · rintro σ' H6 ⟨rs, u9, u10, rfl, rl, sp6, hq6, ed6, hra6, ie⟩
        rw [xl, List.drop_length] at ie
        have ie' : BE.inner B p r.2.1 rows xs = .inl rs := ie.symm
        rw [ie'] at step
        refine ⟨_, rfl, _, _, rfl, rfl, rs, p + 1, _, _, _, rfl, rfl, by omega, sp6, ?_⟩
        rw [step]
        show BE.outer B (B.most + 1 - (p + 1)) rs (p + 1) = BE.outer B (B.most - p) rs (p + 1)
        congr 1
        omega
      rintro i x σ' H6 hx ⟨rs, u9, u10, rfl, rl, sp6, hq6, ed6, hra6, ie⟩
      obtain ⟨y, hy⟩ : ∃ y, xs[i]? = some y := ⟨_, List.getElem?_eq_getElem (by have := (List.getElem?_eq_some_iff.mp hx).1; omega)⟩
      obtain ⟨_, hx', er, yd, yu, rfl, her, dvy, nvy⟩ := paired_at ed6 hy
      rw [hx] at hx'
      cases hx'
      rw [BE.drop_cons' hy] at ie
      have nu := ob.ed r.2.1 r.1 (sp.ri.us r rm) dd y (by rw [exs]; exact List.mem_of_getElem? hy)
      refine ⟨er, _, rfl, her.sq, rfl, _, _, rfl, _, _, rfl, rfl, ?_⟩
      obtain ⟨kvs, dx6, la6⟩ := sp6.dx
      refine ⟨_, rfl, _, rfl, d, _, rfl, BE.nd_get dx6 nvy, _, rfl, ?_⟩
      rw [BE.inner_cons] at ie
      rw [← la6.mem] at ie
      cases hv : (valV kvs y.2).isSome with
      | true =>
        rw [hv, if_pos rfl] at ie
        exact iteF ⟨rs, _, _, rfl, rl, sp6, hq6, ed6, hra6, ie⟩
      | false =>
        rw [hv, if_neg (by decide)] at ie
        refine iteT ?_
        obtain ⟨vs6, hl6, rw6⟩ := sp6.ls
        have vl6 := BE.RwX.len rw6
        refine ⟨_, rfl, l, vs6, rfl, .inl (SqL.of hl6), _, rfl, _, _, rfl, rfl, _, rfl, ?_⟩
        by_cases mm : B.most ≤ rs.length
        · have e2 : decide (((vs6.length : Nat) : Int) ≥ ((B.most : Nat) : Int)) = true := decide_eq_true (by omega)
          rw [e2]
          rw [if_pos mm] at ie
          rw [← ie] at step
          rw [step] at out
          have m2 := ob.m2
          exact iteT ⟨_, rfl, raiseM (by omega) (BadM.mono out sp6.sm)⟩
        · have e2 : decide (((vs6.length : Nat) : Int) ≥ ((B.most : Nat) : Int)) = false := decide_eq_false (by omega)
          rw [e2]
          rw [if_neg mm] at ie
          refine iteF ?_
          have m2 := ob.m2
          refine ⟨_, rfl, _, rfl, d, rfl, BE.nd_set dx6 nvy (BE.size2001 (by have := la6.len; omega)) fun o dx7 => ?_⟩
          obtain ⟨od, hod, nt, nls⟩ := BE.nd_there dx6
          have td : ∀ b ys, H6 b = some (.tup ys) → b ≠ d := fun b ys e z => by rw [z, hod] at e; cases e; exact nt _ rfl
          have hra7 : upd H6 d o ra = some (.tup [ru, .int ((r.2.1 : Nat) : Int), parV r.2.2.1, rdv]) := by rw [upd_ne (td _ _ hra6)]; exact hra6
          have hl7 : upd H6 d o l = some (.lst vs6) := by rw [upd_ne sp6.ld]; exact hl6
          refine ⟨_, rfl, .inl ⟨rfl, _, SqL.of hl7⟩, _, rfl, ra, _, _, rfl, SqT.of hra7, rfl, _, _, rfl, rfl, _, rfl, _, rfl, (by show 4 ≤ sizeLine; decide), fun z nz => ?_⟩
          have s78 := Same.upd (o := .tup [yu, .int (((r.2.1 : Nat) : Int) + 1), .int ((p : Nat) : Int), yd]) nz
          have hz8 : upd (upd H6 d o) z (.tup [yu, .int (((r.2.1 : Nat) : Int) + 1), .int ((p : Nat) : Int), yd]) z = some (.tup [yu, .int (((r.2.1 : Nat) : Int) + 1), .int ((p : Nat) : Int), yd]) := upd_same
          generalize upd (upd H6 d o) z (.tup [yu, .int (((r.2.1 : Nat) : Int) + 1), .int ((p : Nat) : Int), yd]) = H8 at s78 hz8 ⊢
          obtain ⟨hl8, sp9⟩ := sp6.add (r := (y.2, r.2.1 + 1, some p, some y.1)) (a := z) hl6 rw6 la6 hv dx7 s78 hz8 nvy dvy (by omega) nu dd td
          refine ⟨l, vs6, .ref z, rfl, rfl, hl8, BE.size2001 (by omega), ?_⟩
          have up9 : ∀ b u, H6 b = some u → b ≠ d → b ≠ l → upd H8 l (.lst (vs6 ++ [.ref z])) b = some u := fun b u e n1 n2 => by
            rw [upd_ne n2]
            exact s78 _ _ (by rw [upd_ne n1]; exact e)
          have q9 := up9 q _ hq6 dq lq
          have t9 : ∀ b ys, H6 b = some (.tup ys) → upd H8 l (.lst (vs6 ++ [.ref z])) b = some (.tup ys) := fun b ys e => up9 b _ e (td b ys e) fun z => by rw [z, hl6] at e; cases e
          have ra9 := t9 _ _ hra6
          have ed9 := ed6.keep t9
          have nvy9 := nvy.keep t9
          generalize upd H8 l (.lst (vs6 ++ [.ref z])) = H9 at sp9 q9 ra9 ed9 nvy9 ⊢
          refine ⟨fg, rfl, (cG.keep sp9.sm).fn, _, rfl, spSought K B ok, cG.keep sp9.sm, yu, y.2, r.2.1 + 1, rfl, nvy9, nu, fun H10 s10 => ⟨_, rfl, ?_⟩⟩
          cases hgy : B.goal y.2 with
          | true =>
            rw [hgy, if_pos rfl] at ie
            rw [← ie] at step
            rw [step] at out
            obtain ⟨vs9, hl9, rw9⟩ := (sp9.keep s10).ls
            refine iteT ⟨_, rfl, _, rfl, l, vs9, rfl, .inl (SqL.of hl9), _, _, rfl, rfl, (by show 2 ≤ sizeLine; decide), fun zz nzz => ?_⟩
            rw [BE.RwX.len rw9]
            have s11 := Same.upd (o := .tup [.ref l, .int ((((rs ++ [(y.2, r.2.1 + 1, some p, some y.1)]).length : Nat) : Int) - 1)]) nzz
            exact out zz l vs9 _ ((sp9.keep s10).sm.trans s11) upd_same (s11 _ _ hl9) (rw9.keep fun b ys => s11 _ _)
          | false =>
            rw [hgy, if_neg (by decide)] at ie
            exact iteF ⟨_, _, _, rfl, by rw [List.length_append]; omega, sp9.keep s10, s10 _ _ q9, ed9.keep fun b ys => s10 _ _, s10 _ _ ra9, ie⟩
end
end K64

namespace K64
open PySem PySem.Spec PyProof.Rows L2 GM TM BF BE
def spGcd : Sp := fun vs H Q _ => ∃ a b : Int, vs = [.int a, .int b] ∧ 0 ≤ a ∧ 0 ≤ b ∧ Q (.int (G a b)) H
def spLow : Sp := fun vs H Q _ => ∃ t b : Int, vs = [.int t, .int b] ∧ 0 ≤ t ∧ 1 ≤ b ∧ Bt 9000 b ∧ RetT H Q [t / G t b, b / G t b]
def RetZ (K : PySem.W.Frag) (H : Hp) (Q : VK) (ns : List Int) : Prop := ∀ p H', Same H H' → SqZ K H' p (ns.map V.int) → Q (.ref p) H'
/-- two amounts handed in -/
structure Two (K : PySem.W.Frag) (H : Hp) (p q : Addr) (t1 b1 t2 b2 : Int) : Prop where
  sp : SqZ K H p [.int t1, .int b1]
  sq : SqZ K H q [.int t2, .int b2]
  ht1 : 0 ≤ t1
  hb1 : 1 ≤ b1
  ht2 : 0 ≤ t2
  hb2 : 1 ≤ b2
  st1 : Bt 4000 t1
  sb1 : Bt 4000 b1
  st2 : Bt 4000 t2
  sb2 : Bt 4000 b2
def spPlus (K : PySem.W.Frag) : Sp := fun vs H Q _ => ∃ (p q : Addr) (t1 b1 t2 b2 : Int), vs = [.ref p, .ref q] ∧ Two K H p q t1 b1 t2 b2 ∧ Amt t2 b2 ∧
  RetZ K H Q [(t1 * b2 + t2 * b1) / G (t1 * b2 + t2 * b1) (b1 * b2), (b1 * b2) / G (t1 * b2 + t2 * b1) (b1 * b2)]
def spTimes (K : PySem.W.Frag) : Sp := fun vs H Q _ => ∃ (p q : Addr) (t1 b1 t2 b2 : Int), vs = [.ref p, .ref q] ∧ Two K H p q t1 b1 t2 b2 ∧
  RetZ K H Q [(t1 * t2) / G (t1 * t2) (b1 * b2), (b1 * b2) / G (t1 * t2) (b1 * b2)]
def spOver (K : PySem.W.Frag) : Sp := fun vs H Q _ => ∃ (p q : Addr) (t1 b1 t2 b2 : Int), vs = [.ref p, .ref q] ∧ Two K H p q t1 b1 t2 b2 ∧ 1 ≤ t2 ∧
  RetZ K H Q [(t1 * b2) / G (t1 * b2) (b1 * t2), (b1 * t2) / G (t1 * b2) (b1 * t2)]
def spAmount (K : PySem.W.Frag) : Sp := fun vs H Q _ => ∃ t b : Int, vs = [.int t, .int b] ∧ 0 ≤ t ∧ 1 ≤ b ∧ Bt 9000 b ∧ RetZ K H Q [t / G t b, b / G t b]
def spMixed : Sp := fun vs H Q _ => ∃ c k : Int, vs = [.int c, .int k] ∧ 0 ≤ k ∧ k ≤ 63 ∧ ∀ m : Int, 0 ≤ m → m < 2147483587 → Q (.int m) H
def spCell (K : PySem.W.Frag) : Sp := fun vs H Q _ => ∃ (a : Addr) (ns : List Int) (k : Int), vs = [.ref a, .int k] ∧ SqL K H a (ns.map V.int) ∧ 0 ≤ k ∧ ∀ c : Int, Q (.int c) H
def spWhole : Sp := fun vs H Q _ => ∃ n : Int, vs = [.int n] ∧ Q (.bl true) H
section
variable {P : Program} {w : World} {K : PySem.W.Frag} {mg : Str → Option Value} {base : Heap}
theorem gcd_turn {a0 b0 a b : Int} (e : G a b = G a0 b0) (hb : 0 ≤ b) (h : ¬ b = 0) : 0 ≤ a % b ∧ G b (a % b) = G a0 b0 := ⟨Int.emod_nonneg a h, by rw [G_step]; exact e⟩
theorem scGcd : FnScope ["one", "other", "rest"] ["one", "other"] (defScope sGcd) := ⟨rfl, rfl, rfl, by decide +kernel, rfl, by decide +kernel, by decide +kernel⟩
theorem ok_gcd {f : Addr} {fd : FuncData} (F : Fun K "common_divisor" "common_divisor" sGcd f fd) : FnOk P w K mg base CX0 1 f fd ["one", "other"] spGcd := by
  refine F.ok scGcd (fun vs H Q E h => ?_) (fun cdv A outer s H vs Q E hr h => ?_)
  · obtain ⟨a, b, rfl, _⟩ := h
    rfl
  · obtain ⟨a, b, rfl, ha, hb, k⟩ := h
    refine ⟨_, pss_cons (ps_while PassesOwn.never (pt_cmpR op_ne (pv 1) pe_int (nomark _))
      (pss_cons (ps_set (i := 2) scGcd.nd rfl (Or.inl rfl) (pe_op op_mod (pv 0) (pv 1)))
      (pss_cons (ps_set (i := 0) scGcd.nd rfl (Or.inl rfl) (pv 1))
      (pss_one (ps_set (i := 1) scGcd.nd rfl (Or.inl rfl) (pv 2))))))
      (pss_one (ps_ret (pv 0))), ?_⟩
    refine while_by (fun σ H' => H' = H ∧ ∃ (x y : Int) (r : Option V), σ = [some (.int x), some (.int y), r] ∧ 0 ≤ x ∧ 0 ≤ y ∧ G x y = G a b) (fun σ _ => match σ with | [_, some (.int y), _] => y.toNat | _ => 0) ⟨rfl, a, b, none, rfl, ha, hb, rfl⟩ ?_ ?_
    · rintro σ H' ⟨rfl, x, y, r, rfl, hx, hy, e⟩
      refine ⟨_, rfl, rfl, _, rfl, ?_⟩
      refine ite2 (fun hc => ?_) (fun hc => ?_)
      · have hy0 : ¬ y = 0 := by
          intro z
          subst z
          simp at hc
        have t := gcd_turn e hy hy0
        refine ⟨_, rfl, _, rfl, _, _, rfl, rfl, (by show 0 < y; omega), _, rfl, _, rfl, ⟨rfl, y, x % y, _, rfl, hy, t.1, t.2⟩, ?_⟩
        have := Int.emod_lt_of_pos x (show 0 < y by omega)
        have := t.1
        show (x % y).toNat < y.toNat
        omega
      · have hy0 : y = 0 := by
          by_cases z : y = 0
          · exact z
          · exfalso
            apply hc
            simp [z]
        subst hy0
        rw [G_zero hx] at e
        exact ⟨_, rfl, by rw [e]; exact k⟩
    · rintro σ H' Q1 Q2 hq ⟨v, e, z, q⟩
      exact ⟨v, e, z, by obtain ⟨k, e, q⟩ := q; exact ⟨k, e, hq _ _ q⟩⟩
theorem scLow : FnScope ["top", "bottom", "divisor"] ["top", "bottom"] (defScope sLow) := ⟨rfl, rfl, rfl, by decide +kernel, rfl, by decide +kernel, by decide +kernel⟩
theorem low_small {t b : Int} (h1 : 1 ≤ b) (hs : Bt 9000 b) : 0 < G t b ∧ Bt 9000 (G t b) := by
  have p := G_pos (a := t) (b := b) (by omega)
  exact ⟨p, hs.le (by omega) (G_le_r (by omega))⟩
theorem ok_low {f : Addr} {fd : FuncData} (F : Fun K "lowest_terms" "lowest_terms" sLow f fd) (cG : Cal P w K mg base CX0 1 "common_divisor" ["one", "other"] spGcd) : FnOk P w K mg base CX0 2 f fd ["top", "bottom"] spLow := by
  refine F.ok scLow (fun vs H Q E h => ?_) (fun cdv A outer s H vs Q E hr h => ?_)
  · obtain ⟨a, b, rfl, _⟩ := h
    rfl
  · obtain ⟨t, b, rfl, ht, hb, hs, k⟩ := h
    refine ⟨_, pss_cons (ps_set (i := 2) scLow.nd rfl (Or.inl rfl) (pe_cal cG hr rfl pass0 (pa_cons (pv 0) (pa_cons (pv 1) pa_nil))))
      (pss_one (ps_ret (pe_tup (pa_cons (pe_op op_fdivB (pv 0) (pv 2)) (pa_cons (pe_op op_fdivB (pv 1) (pv 2)) pa_nil))))), ?_⟩
    refine ⟨_, rfl, _, rfl, t, b, rfl, ht, by omega, ?_⟩
    have g := low_small (t := t) hb hs
    refine ⟨_, rfl, _, rfl, _, _, rfl, rfl, g, _, rfl, _, rfl, _, _, rfl, rfl, g, (by show 2 ≤ sizeLine; decide), fun p hp => ?_⟩
    exact k p _ (Same.upd hp) upd_same
theorem scDiv : FnScope ["_law_one", "_law_other"] ["_law_one", "_law_other"] (defScope sDiv) := ⟨rfl, rfl, rfl, by decide +kernel, rfl, by decide +kernel, by decide +kernel⟩
theorem ok_div {f : Addr} {fd : FuncData} (F : Fun K "_law_divisor" "_law_divisor" sDiv f fd) : FnOk P w K mg base CX0 1 f fd ["_law_one", "_law_other"] spGcd := by
  refine F.ok scDiv (fun vs H Q E h => ?_) (fun cdv A outer s H vs Q E hr h => ?_)
  · obtain ⟨a, b, rfl, _⟩ := h
    rfl
  · obtain ⟨a, b, rfl, ha, hb, k⟩ := h
    refine ⟨_, pss_cons (ps_while PassesOwn.never (pt_cmpR op_gt (pv 1) pe_int (nomark _))
      (pss_one (ps_par (i := 0) (j := 1) rfl scDiv.nd rfl rfl (by decide) rfl rfl (pa_cons (pv 1) (pa_cons (pe_op op_mod (pv 0) (pv 1)) pa_nil)) rfl)))
      (pss_one (ps_ret (pv 0))), ?_⟩
    refine while_by (fun σ H' => H' = H ∧ ∃ (x y : Int), σ = [some (.int x), some (.int y)] ∧ 0 ≤ x ∧ 0 ≤ y ∧ G x y = G a b) (fun σ _ => match σ with | [_, some (.int y)] => y.toNat | _ => 0) ⟨rfl, a, b, rfl, ha, hb, rfl⟩ ?_ ?_
    · rintro σ H' ⟨rfl, x, y, rfl, hx, hy, e⟩
      refine ⟨_, rfl, _, _, rfl, rfl, _, rfl, ?_⟩
      refine ite2 (fun hc => ?_) (fun hc => ?_)
      · have hy0 : 0 < y := of_decide_eq_true hc
        have t := gcd_turn e hy (by omega)
        refine ⟨_, rfl, _, rfl, _, rfl, _, _, rfl, rfl, (by show 0 < y; omega), _, _, rfl, ⟨rfl, y, x % y, rfl, hy, t.1, t.2⟩, ?_⟩
        have := Int.emod_lt_of_pos x (show 0 < y by omega)
        have := t.1
        show (x % y).toNat < y.toNat
        omega
      · have hy0 : y = 0 := by
          have : ¬ 0 < y := fun z => hc (decide_eq_true z)
          omega
        subst hy0
        rw [G_zero hx] at e
        exact ⟨_, rfl, by rw [e]; exact k⟩
    · rintro σ H' Q1 Q2 hq ⟨v, e, i, j, e1, e2, z, ez, q⟩
      exact ⟨v, e, i, j, e1, e2, z, ez, hq _ _ q⟩
theorem scLlow : FnScope ["_law_top", "_law_bottom", "_law_by"] ["_law_top", "_law_bottom"] (defScope sLlow) := ⟨rfl, rfl, rfl, by decide +kernel, rfl, by decide +kernel, by decide +kernel⟩
theorem ok_llow {f : Addr} {fd : FuncData} (F : Fun K "_law_low" "_law_low" sLlow f fd) (cG : Cal P w K mg base CX0 1 "_law_divisor" ["_law_one", "_law_other"] spGcd) : FnOk P w K mg base CX0 2 f fd ["_law_top", "_law_bottom"] spLow := by
  refine F.ok scLlow (fun vs H Q E h => ?_) (fun cdv A outer s H vs Q E hr h => ?_)
  · obtain ⟨a, b, rfl, _⟩ := h
    rfl
  · obtain ⟨t, b, rfl, ht, hb, hs, k⟩ := h
    refine ⟨_, pss_cons (ps_set (i := 2) scLlow.nd rfl (Or.inl rfl) (pe_cal cG hr rfl pass0 (pa_cons (pv 0) (pa_cons (pv 1) pa_nil))))
      (pss_one (ps_ret (pe_tup (pa_cons (pe_op op_fdivB (pv 0) (pv 2)) (pa_cons (pe_op op_fdivB (pv 1) (pv 2)) pa_nil))))), ?_⟩
    refine ⟨_, rfl, _, rfl, t, b, rfl, ht, by omega, ?_⟩
    have g := low_small (t := t) hb hs
    refine ⟨_, rfl, _, rfl, _, _, rfl, rfl, g, _, rfl, _, rfl, _, _, rfl, rfl, g, (by show 2 ≤ sizeLine; decide), fun p hp => ?_⟩
    exact k p _ (Same.upd hp) upd_same
theorem scWhole : FnScope ["_law_found"] ["_law_found"] (defScope sWhole) := ⟨rfl, rfl, rfl, by decide +kernel, rfl, by decide +kernel, by decide +kernel⟩
theorem ok_whole {f : Addr} {fd : FuncData} (F : Fun K "_law_whole" "_law_whole" sWhole f fd) (T : Txt mg) : FnOk P w K mg base CX0 1 f fd ["_law_found"] spWhole := by
  refine F.ok scWhole (fun vs H Q E h => ?_) (fun cdv A outer s H vs Q E hr h => ?_)
  · obtain ⟨_, rfl, _⟩ := h
    rfl
  · obtain ⟨n, rfl, k⟩ := h
    refine ⟨_, pss_one (ps_ret (pe_and (pe_callB call_isi rfl T.isi boot_isinstance (pa_cons (pv 0) (pa_cons (pe_bltn (v := .ty "int") rfl T.int' bt_int rfl) pa_nil)))
      (pe_one (pe_not (pe_callB call_isi rfl T.isi boot_isinstance (pa_cons (pv 0) (pa_cons (pe_bltn (v := .ty "bool") rfl T.bool' bt_bool rfl) pa_nil))))))), ?_⟩
    refine ⟨_, rfl, _, "int", true, rfl, .int_int, _, rfl, iteT ?_⟩
    exact ⟨_, rfl, _, "bool", false, rfl, .int_bool, _, rfl, k⟩
theorem scMixed : FnScope ["_law_cell", "_law_k"] ["_law_cell", "_law_k"] (defScope sMixed) := ⟨rfl, rfl, rfl, by decide +kernel, rfl, by decide +kernel, by decide +kernel⟩
theorem ok_mixed {f : Addr} {fd : FuncData} (F : Fun K "_law_mixed" "_law_mixed" sMixed f fd) : FnOk P w K mg base CX0 1 f fd ["_law_cell", "_law_k"] spMixed := by
  refine F.ok scMixed (fun vs H Q E h => ?_) (fun cdv A outer s H vs Q E hr h => ?_)
  · obtain ⟨_, _, rfl, _⟩ := h
    rfl
  · obtain ⟨c, j, rfl, h0, h1, k⟩ := h
    refine ⟨_, (pss_one (ps_ret (pe_op op_mod (pe_op op_mulB (pe_op op_add (pe_op op_mod (pv 0) pe_int) pe_int) (pe_op op_add pe_int (pe_op op_mulB (pe_op op_mulB pe_int (pv 1)) (pv 1)))) pe_int))), ?_⟩
    have i1 := emod_in c (show (0 : Int) < 2147483647 by decide)
    have j2 : 0 ≤ 2 * j * j := Int.mul_nonneg (by omega) h0
    have j3 : 2 * j * j ≤ 2 * 63 * 63 := Int.mul_le_mul (by omega) h1 h0 (by decide)
    refine ⟨_, rfl, _, _, rfl, rfl, (by show (0 : Int) < 2147483647; decide), _, _, rfl, rfl, _, rfl, _, _, rfl, rfl, ⟨bl, bl h0 (by omega)⟩, _, rfl, _, _, rfl, rfl, ⟨bl (by omega) (by omega), bl h0 (by omega)⟩, _, _, rfl, rfl, _, _, rfl, rfl, ⟨bl (by omega) (by omega), bl (by omega) (by omega)⟩, _, _, rfl, rfl, (by show (0 : Int) < 2147483587; decide), ?_⟩
    have i2 := emod_in ((c % 2147483647 + 13) * (69621 + 2 * j * j)) (show (0 : Int) < 2147483587 by decide)
    exact k _ i2.1 i2.2
theorem scCell : FnScope ["_law_script", "_law_k"] ["_law_script", "_law_k"] (defScope sCell) := ⟨rfl, rfl, rfl, by decide +kernel, rfl, by decide +kernel, by decide +kernel⟩
theorem ok_cell {f : Addr} {fd : FuncData} (F : Fun K "_law_cell_at" "_law_cell_at" sCell f fd) (T : Txt mg) : FnOk P w K mg base CX0 1 f fd ["_law_script", "_law_k"] (spCell K) := by
  refine F.ok scCell (fun vs H Q E h => ?_) (fun cdv A outer s H vs Q E hr h => ?_)
  · obtain ⟨_, _, _, rfl, _⟩ := h
    rfl
  · obtain ⟨a, ns, j, rfl, hS, h0, k⟩ := h
    refine ⟨_, (pss_cons (ps_if (pt_cmpR op_lt (pv 1) (pe_callB call_len_seq rfl T.len PySem.boot_len (pa_cons (pv 0) pa_nil)) (nomark _))
        (pss_one (ps_ret (pe_ix ix_list (pv 0) (pv 1) (fun _ _ => rfl))))
        pss_nil)
      (pss_one (ps_ret pe_int))), ?_⟩
    refine ⟨_, rfl, _, rfl, a, _, rfl, .inl hS, _, _, rfl, rfl, _, rfl, ite2 (fun hc => ?_) (fun _ => k _)⟩
    have hc' : j < ((ns.map V.int).length : Int) := of_decide_eq_true hc
    rw [List.length_map] at hc'
    obtain ⟨i, rfl⟩ := Int.eq_ofNat_of_zero_le h0
    obtain ⟨c, hc⟩ : ∃ c, ns[i]? = some c := ⟨_, List.getElem?_eq_getElem (show i < ns.length by omega)⟩
    exact ⟨_, rfl, _, rfl, a, _, (i : Int), .int c, rfl, rfl, hS, atI_nat (by rw [List.getElem?_map, hc]; rfl), k c⟩
theorem scIsWh : FnScope ["thing"] ["thing"] (defScope sIsWh) := ⟨rfl, rfl, rfl, by decide +kernel, rfl, by decide +kernel, by decide +kernel⟩
theorem ok_iswh {f : Addr} {fd : FuncData} (F : Fun K "is_whole_number" "is_whole_number" sIsWh f fd) (T : Txt mg) : FnOk P w K mg base CX0 1 f fd ["thing"] spWhole := by
  refine F.ok scIsWh (fun vs H Q E h => ?_) (fun cdv A outer s H vs Q E hr h => ?_)
  · obtain ⟨_, rfl, _⟩ := h
    rfl
  · obtain ⟨n, rfl, k⟩ := h
    refine ⟨_, pss_one (ps_ret (pe_and (pe_callB call_isi rfl T.isi boot_isinstance (pa_cons (pv 0) (pa_cons (pe_bltn (v := .ty "int") rfl T.int' bt_int rfl) pa_nil)))
      (pe_one (pe_not (pe_callB call_isi rfl T.isi boot_isinstance (pa_cons (pv 0) (pa_cons (pe_bltn (v := .ty "bool") rfl T.bool' bt_bool rfl) pa_nil))))))), ?_⟩
    refine ⟨_, rfl, _, "int", true, rfl, .int_int, _, rfl, iteT ?_⟩
    exact ⟨_, rfl, _, "bool", false, rfl, .int_bool, _, rfl, k⟩
theorem Two.botS {H : Hp} {p q : Addr} {t1 b1 t2 b2 : Int} (T : Two K H p q t1 b1 t2 b2) : 1 ≤ b1 * b2 ∧ Bt 8000 (b1 * b2) := by
  have := Int.mul_le_mul T.hb1 T.hb2 (by decide) (by have := T.hb1; omega)
  exact ⟨by omega, T.sb1.mul T.sb2⟩
theorem scPlus : FnScope ["one", "other"] ["one", "other"] (defScope sPlus) := ⟨rfl, rfl, rfl, by decide +kernel, rfl, by decide +kernel, by decide +kernel⟩
theorem ok_plus {f aN : Addr} {fd : FuncData} (F : Fun K "plus" "plus" sPlus f fd) (mN : mg "NOUGHT" = some (.ref aN)) (sN : ∀ H : Hp, SqT K H aN [.int 0, .int 1]) (cL : Cal P w K mg base CX0 2 "lowest_terms" ["top", "bottom"] spLow) : FnOk P w K mg base CX0 3 f fd ["one", "other"] (spPlus K) := by
  refine F.ok scPlus (fun vs H Q E h => ?_) (fun cdv A outer s H vs Q E hr h => ?_)
  · obtain ⟨_, _, _, _, _, _, rfl, _⟩ := h
    rfl
  · obtain ⟨p, q, t1, b1, t2, b2, rfl, T, am, k⟩ := h
    refine ⟨_, pss_cons (ps_if (pt_cmpR (op_eqI hr.units) (pv 0) (pe_glob (v := .ref aN) rfl mN rfl) (nomark _)) (pss_one (ps_ret (pv 1))) pss_nil)
      (pss_one (ps_ret (pe_cal cL hr rfl pass0 (pa_cons (pe_op op_add (pe_op op_mulB (pit 0 0) (pit 1 1)) (pe_op op_mulB (pit 1 0) (pit 0 1))) (pa_cons (pe_op op_mulB (pit 0 1) (pit 1 1)) pa_nil))))), ?_⟩
    have bs := T.botS
    have m1 := Int.mul_nonneg T.ht1 (show 0 ≤ b2 by have := T.hb2; omega)
    have m2 := Int.mul_nonneg T.ht2 (show 0 ≤ b1 by have := T.hb1; omega)
    refine ⟨_, rfl, p, aN, [t1, b1], [0, 1], rfl, rfl, T.sp.sq, sN H, _, rfl, ite2 (fun hc => ?_) (fun _ => ?_)⟩
    · have e := of_decide_eq_true hc
      injection e with e1 e
      injection e with e2 e
      subst e1 e2
      refine ⟨_, rfl, ?_⟩
      have u := low_unique (t := 0 * b2 + t2 * 1) (b := 1 * b2) (by omega) (by omega) am (by rw [Int.zero_mul, Int.zero_add, Int.one_mul, Int.mul_one])
      rw [u.1, u.2] at k
      exact k q H (Same.refl H) T.sq
    · refine ⟨p, _, _, rfl, T.sp.sq, rfl, q, _, _, rfl, T.sq.sq, rfl, _, _, rfl, rfl, ⟨b6 T.st1, b6 T.sb2⟩, q, _, _, rfl, T.sq.sq, rfl, p, _, _, rfl, T.sp.sq, rfl, _, _, rfl, rfl, ⟨b6 T.st2, b6 T.sb1⟩, _, _, rfl, rfl, ?_⟩
      exact ⟨p, _, _, rfl, T.sp.sq, rfl, q, _, _, rfl, T.sq.sq, rfl, _, _, rfl, rfl, ⟨b6 T.sb1, b6 T.sb2⟩, _, _, rfl, by omega, bs.1, bs.2.mono (by decide), fun p' H' sm hp => k p' H' sm (SqZ.of hp)⟩
theorem scTimes : FnScope ["one", "other"] ["one", "other"] (defScope sTimes) := ⟨rfl, rfl, rfl, by decide +kernel, rfl, by decide +kernel, by decide +kernel⟩
theorem ok_times {f : Addr} {fd : FuncData} (F : Fun K "times" "times" sTimes f fd) (cL : Cal P w K mg base CX0 2 "lowest_terms" ["top", "bottom"] spLow) : FnOk P w K mg base CX0 3 f fd ["one", "other"] (spTimes K) := by
  refine F.ok scTimes (fun vs H Q E h => ?_) (fun cdv A outer s H vs Q E hr h => ?_)
  · obtain ⟨_, _, _, _, _, _, rfl, _⟩ := h
    rfl
  · obtain ⟨p, q, t1, b1, t2, b2, rfl, T, k⟩ := h
    refine ⟨_, pss_one (ps_ret (pe_cal cL hr rfl pass0 (pa_cons (pe_op op_mulB (pit 0 0) (pit 1 0)) (pa_cons (pe_op op_mulB (pit 0 1) (pit 1 1)) pa_nil)))), ?_⟩
    have bs := T.botS
    refine ⟨p, _, _, rfl, T.sp.sq, rfl, q, _, _, rfl, T.sq.sq, rfl, _, _, rfl, rfl, ⟨b6 T.st1, b6 T.st2⟩, ?_⟩
    exact ⟨p, _, _, rfl, T.sp.sq, rfl, q, _, _, rfl, T.sq.sq, rfl, _, _, rfl, rfl, ⟨b6 T.sb1, b6 T.sb2⟩, _, _, rfl, Int.mul_nonneg T.ht1 T.ht2, bs.1, bs.2.mono (by decide), fun p' H' sm hp => k p' H' sm (SqZ.of hp)⟩
theorem scOver : FnScope ["one", "other"] ["one", "other"] (defScope sOver) := ⟨rfl, rfl, rfl, by decide +kernel, rfl, by decide +kernel, by decide +kernel⟩
theorem ok_over {f aN : Addr} {fd : FuncData} (F : Fun K "over" "over" sOver f fd) (mN : mg "NOUGHT" = some (.ref aN)) (sN : ∀ H : Hp, SqT K H aN [.int 0, .int 1]) (cL : Cal P w K mg base CX0 2 "lowest_terms" ["top", "bottom"] spLow) : FnOk P w K mg base CX0 3 f fd ["one", "other"] (spOver K) := by
  refine F.ok scOver (fun vs H Q E h => ?_) (fun cdv A outer s H vs Q E hr h => ?_)
  · obtain ⟨_, _, _, _, _, _, rfl, _⟩ := h
    rfl
  · obtain ⟨p, q, t1, b1, t2, b2, rfl, T, h1, k⟩ := h
    refine ⟨_, pss_cons (ps_if (pt_cmpR (op_eqI hr.units) (pv 1) (pe_glob (v := .ref aN) rfl mN rfl) (nomark _)) (pss_one ps_never) pss_nil)
      (pss_one (ps_ret (pe_cal cL hr rfl pass0 (pa_cons (pe_op op_mulB (pit 0 0) (pit 1 1)) (pa_cons (pe_op op_mulB (pit 0 1) (pit 1 0)) pa_nil))))), ?_⟩
    have bot : 1 ≤ b1 * t2 := by
      have := Int.mul_le_mul T.hb1 h1 (by decide) (by have := T.hb1; omega)
      omega
    refine ⟨_, rfl, q, aN, [t2, b2], [0, 1], rfl, rfl, T.sq.sq, sN H, _, rfl, ?_⟩
    rw [decide_eq_false (fun e => by injection e with e1 e; omega)]
    refine iteF ⟨p, _, _, rfl, T.sp.sq, rfl, q, _, _, rfl, T.sq.sq, rfl, _, _, rfl, rfl, ⟨b6 T.st1, b6 T.sb2⟩, ?_⟩
    exact ⟨p, _, _, rfl, T.sp.sq, rfl, q, _, _, rfl, T.sq.sq, rfl, _, _, rfl, rfl, ⟨b6 T.sb1, b6 T.st2⟩, _, _, rfl, Int.mul_nonneg T.ht1 (by have := T.hb2; omega), bot, (T.sb1.mul T.st2).mono (by decide), fun p' H' sm hp => k p' H' sm (SqZ.of hp)⟩
theorem scAmount : FnScope ["top", "bottom"] ["top", "bottom"] (defScope sAmount) := ⟨rfl, rfl, rfl, by decide +kernel, rfl, by decide +kernel, by decide +kernel⟩
theorem ok_amount {f dT : Addr} {oc kV doc pm cdv ct : Value} {od an : Option Addr} {osl : Array (Option Value)} (lk : K.lookup f = some ⟨oc, od, .func (PySem.W.fnOf "amount" "amount" (defArgs sAmount) (defBody sAmount) (defScope sAmount) (.ref dT) kV doc pm an cdv ct), osl⟩) (hcd : PySem.W.codeIn K cdv "amount" = true)
    (cW : Cal P w K mg base CX0 2 "is_whole_number" ["thing"] spWhole) (cL : Cal P w K mg base CX0 2 "lowest_terms" ["top", "bottom"] spLow) : FnOk P w K mg base CX0 3 f (PySem.W.fnOf "amount" "amount" (defArgs sAmount) (defBody sAmount) (defScope sAmount) (.ref dT) kV doc pm an cdv ct) ["top", "bottom"] (spAmount K) := by
  have body : ∀ (A : Around) (outer : List Env) (s : Shared) (H : Hp) (vs : List V) (Q : VK) (E : XK), Room 2 (A.deeper (envOfC "amount" (defScope sAmount) s.heap.objs.size f cdv)) → spAmount K vs H Q E →
      ∃ t, PSs (cxOf CX0 P w K mg base ["top", "bottom"] "amount" (defScope sAmount) f cdv A outer s H E).nox (defBody sAmount) t ∧ t { nx := fun _ H' => Q .non H', rt := Q } (start ["top", "bottom"] vs) H := by
    rintro A outer s H vs Q E hr ⟨t, b, rfl, ht, hb, sb, k⟩
    refine ⟨_, pss_cons (ps_if (PW.pt (pw_or (pt_not (pt_val (pe_cal cW hr rfl pass0 (pa_cons (pv 0) pa_nil)))) (pw_or1 (pt_not (pt_val (pe_cal cW hr rfl pass0 (pa_cons (pv 1) pa_nil))))))) (pss_one ps_never) pss_nil)
      (pss_cons (ps_if (PW.pt (pw_or (pt_cmpR op_lt (pv 0) pe_int (nomark _)) (pw_or1 (pt_cmpR op_lt (pv 1) pe_int (nomark _))))) (pss_one ps_never) pss_nil)
      (pss_one (ps_ret (pe_cal cL hr rfl pass0 (pa_cons (pv 0) (pa_cons (pv 1) pa_nil)))))), ?_⟩
    refine ⟨_, rfl, t, rfl, _, rfl, iteF ⟨_, rfl, b, rfl, _, rfl, iteF ?_⟩⟩
    refine ⟨_, rfl, _, _, rfl, rfl, _, rfl, ?_⟩
    rw [show decide (t < 0) = false from decide_eq_false (by omega)]
    refine iteF ⟨_, rfl, _, _, rfl, rfl, _, rfl, ?_⟩
    rw [show decide (b < 1) = false from decide_eq_false (by omega)]
    exact iteF ⟨_, rfl, _, rfl, t, b, rfl, ht, hb, sb, fun p' H' sm hp => k p' H' sm (SqZ.of hp)⟩
  refine fn_of lk hcd scAmount (fun vs H Q E h => ?_) fun A outer s H vs Q E hr hsp => ?_
  · obtain ⟨_, _, rfl, _⟩ := h
    rfl
  · obtain ⟨t, h, q⟩ := body A outer s H vs Q E hr hsp
    exact ⟨t, h.nox, q⟩
end
end K64

namespace K64
open PySem PySem.Spec PyProof.Rows L2 GM TM BF BE
/-- a step: its word, the measure, what it leads to -/
structure Sq5 where
  w : Str
  m : Int
  f : Int
  t : Int
  b : Int
def lt' (t b : Int) : Int := t / G t b
def lb' (t b : Int) : Int := b / G t b
def sStrong (F T B m : Int) : Sq5 := ⟨"strong", m, F + m, lt' (T + m * B) B, lb' (T + m * B) B⟩
def sThin (F T B m : Int) : Sq5 := ⟨"thin", m, F + m, T, B⟩
def sOff (F T B m : Int) : Sq5 := ⟨"off", m, F - m, lt' (T * (F - m)) (B * F), lb' (T * (F - m)) (B * F)⟩
def fits (R F : Int) (m : Int) : Bool := decide (F + m ≤ R)
def less' (F : Int) (m : Int) : Bool := decide (m ≤ F)
def stepsOf (ms : List Int) (R F T B : Int) : List Sq5 := (ms.filter (fits R F)).map (sStrong F T B) ++ (ms.filter (fits R F)).map (sThin F T B) ++ (ms.filter (less' F)).map (sOff F T B)
/-- a step as it lies there -/
def Sp5 (K : PySem.W.Frag) (H : Hp) (v : V) (x : Sq5) : Prop := ∃ p d g q : Addr, v = .ref p ∧ SqZ K H p [.ref d, .ref g] ∧ SqZ K H d [.str x.w, .int x.m] ∧ SqZ K H g [.int x.f, .ref q] ∧ SqZ K H q [.int x.t, .int x.b]
theorem Sp5.keep {K : PySem.W.Frag} {H H' : Hp} {v : V} {x : Sq5} (h : Sp5 K H v x) (k : Tk H H') : Sp5 K H' v x := by
  obtain ⟨p, d, g, q, e, h1, h2, h3, h4⟩ := h
  exact ⟨p, d, g, q, e, k.sqz h1, k.sqz h2, k.sqz h3, k.sqz h4⟩
def SL (K : PySem.W.Frag) (H : Hp) (xs : List V) (ss : List Sq5) : Prop := xs.length = ss.length ∧ ∀ (j : Nat) v s, xs[j]? = some v → ss[j]? = some s → Sp5 K H v s
theorem SL.keep {K : PySem.W.Frag} {H H' : Hp} {xs : List V} {ss : List Sq5} (h : SL K H xs ss) (k : Tk H H') : SL K H' xs ss := ⟨h.1, fun j v s hv hs => (h.2 j v s hv hs).keep k⟩
theorem SL.nil {K : PySem.W.Frag} {H : Hp} : SL K H [] [] := ⟨rfl, fun j v s h => by simp at h⟩
theorem SL.append {K : PySem.W.Frag} {H : Hp} {xs ys : List V} {ss ts : List Sq5} (h : SL K H xs ss) (k : SL K H ys ts) : SL K H (xs ++ ys) (ss ++ ts) := by
  refine ⟨by rw [List.length_append, List.length_append, h.1, k.1], fun j x d hx hd => ?_⟩
  by_cases hj : j < xs.length
  · rw [List.getElem?_append_left hj] at hx
    rw [List.getElem?_append_left (by rw [← h.1]; exact hj)] at hd
    exact h.2 j x d hx hd
  · rw [List.getElem?_append_right (by omega)] at hx
    rw [List.getElem?_append_right (by rw [← h.1]; omega), ← h.1] at hd
    exact k.2 _ x d hx hd
theorem SL.one {K : PySem.W.Frag} {H : Hp} {v : V} {s : Sq5} (h : Sp5 K H v s) : SL K H [v] [s] := by
  refine ⟨rfl, fun j x d hx hd => ?_⟩
  cases j with
  | zero => simp at hx hd; subst hx hd; exact h
  | succ j => simp at hx
theorem SL.snoc {K : PySem.W.Frag} {H : Hp} {xs : List V} {ss : List Sq5} {v : V} {s : Sq5} (h : SL K H xs ss) (k : Sp5 K H v s) : SL K H (xs ++ [v]) (ss ++ [s]) := h.append (.one k)
def enc (x : Sq5) : Dt := .t [.t [.s x.w, .i x.m], .t [.i x.f, .t [.i x.t, .i x.b]]]
/-- what is known of the measures, the room and the mixing -/
structure Mg (K : PySem.W.Frag) (H : Hp) (a g : Addr) (ms : List Int) (R F T B : Int) : Prop where
  sa : SqL K H a (ms.map V.int)
  ml : ms.length ≤ 6
  mb : ∀ m ∈ ms, 1 ≤ m ∧ m ≤ 1000
  r : 0 ≤ R ∧ R ≤ 10000
  f : 0 ≤ F ∧ F ≤ 10000
  am : Amt T B
  st : Bt 1500 T
  sb : Bt 1500 B
  g : ∃ q, SqZ K H g [.int F, .ref q] ∧ SqZ K H q [.int T, .int B]
def spSteps (K : PySem.W.Frag) : Sp := fun vs H Q _ => ∃ (a g : Addr) (ms : List Int) (R F T B : Int), vs = [.ref a, .int R, .ref g] ∧ Mg K H a g ms R F T B ∧
  ∀ p H' xs, Same H H' → H p = none → H' p = some (.lst xs) → SL K H' xs (stepsOf ms R F T B) → Q (.ref p) H'
theorem off_eq {T B F m : Int} (hT : 0 ≤ T) (hB : 1 ≤ B) (hF : 1 ≤ F) (hm : m ≤ F) :
    (T * (lt' (F - m) F)) / G (T * (lt' (F - m) F)) (B * (lb' (F - m) F)) = lt' (T * (F - m)) (B * F) ∧ (B * (lb' (F - m) F)) / G (T * (lt' (F - m) F)) (B * (lb' (F - m) F)) = lb' (T * (F - m)) (B * F) := by
  have a1 := low_amt (t := F - m) (b := F) (by omega) hF
  have c1 := low_cross (F - m) F
  have bf : 1 ≤ B * F := by
    have := Int.mul_le_mul hB hF (by decide) (by omega)
    omega
  have a2 := low_amt (t := T * (F - m)) (b := B * F) (Int.mul_nonneg hT (by omega)) bf
  have c2 := low_cross (T * (F - m)) (B * F)
  unfold lt' lb'
  generalize (F - m) / G (F - m) F = x1 at *
  generalize F / G (F - m) F = y1 at *
  generalize T * (F - m) / G (T * (F - m)) (B * F) = x2 at *
  generalize B * F / G (T * (F - m)) (B * F) = y2 at *
  have b1 : 1 ≤ B * y1 := by
    have := Int.mul_le_mul hB a1.b1 (by decide) (by omega)
    omega
  refine low_unique (Int.mul_nonneg hT a1.t0) b1 a2 ?_
  -- x2 * (B * y1) = T * x1 * y2
  have hF0 : F ≠ 0 := by omega
  apply Int.eq_of_mul_eq_mul_right hF0
  have e1 : x2 * (B * y1) * F = x2 * (B * F) * y1 := by
    rw [Int.mul_assoc, Int.mul_assoc x2, Int.mul_assoc B y1 F, Int.mul_assoc B F y1, Int.mul_comm y1 F]
  rw [e1, c2]
  have e2 : T * x1 * y2 * F = T * (x1 * F) * y2 := by
    rw [Int.mul_assoc T x1 y2, Int.mul_assoc T (x1 * y2) F, Int.mul_assoc x1 y2 F, Int.mul_comm y2 F, ← Int.mul_assoc x1 F y2, ← Int.mul_assoc T (x1 * F) y2]
  rw [e2, c1]
  rw [Int.mul_assoc, Int.mul_assoc T, Int.mul_assoc T, Int.mul_comm y2 y1, Int.mul_assoc (F - m) y1 y2]
section
variable {P : Program} {w : World} {K : PySem.W.Frag} {mg : Str → Option Value} {base : Heap}
theorem scMxs : FnScope ["_law_measures_here", "_law_room", "_law_mixing", "_law_full", "_law_strong", "_law_found", "_law_m"] ["_law_measures_here", "_law_room", "_law_mixing"] (defScope sMxs) := ⟨rfl, rfl, rfl, by decide +kernel, rfl, by decide +kernel, by decide +kernel⟩
/-- the loop's word in _law_mixings -/
def Mw (K : PySem.W.Frag) (a g q D : Addr) (H : Hp) (R F : Int) (ss : List Sq5) (σ : L2.St) (H2 : Hp) : Prop := ∃ (xs : List V) (v6 : Option V), σ = [some (.ref a), some (.int R), some (.ref g), some (.int F), some (.ref q), some (.ref D), v6] ∧ Same H H2 ∧ H2 D = some (.lst xs) ∧ SL K H2 xs ss ∧ ss.length ≤ 20
theorem Mw.more {K : PySem.W.Frag} {a g q D : Addr} {H H2 H5 : Hp} {R F : Int} {ss : List Sq5} {xs : List V} {v : V} {s : Sq5} {v6 : Option V} (hD0 : H D = none) (s2 : Same H H2) (hD : H2 D = some (.lst xs)) (sl : SL K H2 xs ss) (hl : ss.length < 20) (s25 : Same H2 H5) (hv : Sp5 K H5 v s) :
    Mw K a g q D H R F (ss ++ [s]) [some (.ref a), some (.int R), some (.ref g), some (.int F), some (.ref q), some (.ref D), v6] (upd H5 D (.lst (xs ++ [v]))) := by
  have hD5 := s25 _ _ hD
  have tk : Tk H5 (upd H5 D (.lst (xs ++ [v]))) := Tk.lst hD5
  refine ⟨xs ++ [v], v6, rfl, fun b o hb => ?_, upd_same, ((sl.keep (Same.tk s25)).keep tk).snoc (hv.keep tk), by rw [List.length_append, List.length_singleton]; omega⟩
  rw [upd_ne (ne_of_none hb hD0)]
  exact s25 _ _ (s2 _ _ hb)
theorem take_snoc {ms : List Int} {i : Nat} {c : Int} (h : ms[i]? = some c) (p : Int → Bool) (f : Int → Sq5) : ((ms.take (i + 1)).filter p).map f = ((ms.take i).filter p).map f ++ (if p c then [f c] else []) := by
  rw [List.take_add_one, h, List.filter_append, List.map_append]
  cases hp : p c with
  | true => simp [hp]
  | false => simp [hp]
theorem len_part (ms : List Int) (i : Nat) (p : Int → Bool) (f : Int → Sq5) : (((ms.take i).filter p).map f).length ≤ ms.length := by
  rw [List.length_map]
  exact Nat.le_trans (List.length_filter_le _ _) (by rw [List.length_take]; omega)
theorem ok_mxs {f : Addr} {fd : FuncData} (F' : Fun K "_law_mixings" "_law_mixings" sMxs f fd) (cW : Cal P w K mg base CX0 2 "_law_low" ["_law_top", "_law_bottom"] spLow) : FnOk P w K mg base CX0 3 f fd ["_law_measures_here", "_law_room", "_law_mixing"] (spSteps K) := by
  refine F'.ok scMxs (fun vs H Q E h => ?_) (fun cdv A outer s H vs Q E hr h => ?_)
  · obtain ⟨_, _, _, _, _, _, _, rfl, _⟩ := h
    rfl
  · obtain ⟨a, g, ms, R, F, T, B, rfl, mg', k⟩ := h
    refine ⟨_, (pss_cons (ps_asg (pv 2) (pg_tup rfl (pgs_cons (pg_name (i := 3) scMxs.nd rfl (Or.inl rfl)) (pgs_cons (pg_name (i := 4) scMxs.nd rfl (Or.inl rfl)) pgs_nil))))
      (pss_cons (ps_set (i := 5) scMxs.nd rfl (Or.inl rfl) (pe_lst pa_nil))
      (pss_cons (ps_for PassesOwn.never rfl (pi_list (pv 0)) (pg_name (i := 6) scMxs.nd rfl (Or.inl rfl))
        (pss_one (ps_if (pt_cmpR op_le (pe_op op_add (pv 3) (pv 6)) (pv 1) (nomark _))
          (pss_one (ps_expr (pe_bm PySem.F.plainAttrs_list PySem.F.slot_list_append PySem.F.type_list_append mt_append (pv 5) (pa_cons (pe_tup (pa_cons (pe_tup (pa_cons pe_str (pa_cons (pv 6) pa_nil))) (pa_cons (pe_tup (pa_cons (pe_op op_add (pv 3) (pv 6)) (pa_cons (pe_cal cW hr rfl pass0 (pa_cons (pe_op op_add (pit 4 0) (pe_op op_mulB (pv 6) (pit 4 1))) (pa_cons (pit 4 1) pa_nil))) pa_nil))) pa_nil))) pa_nil))))
          pss_nil)))
      (pss_cons (ps_for PassesOwn.never rfl (pi_list (pv 0)) (pg_name (i := 6) scMxs.nd rfl (Or.inl rfl))
        (pss_one (ps_if (pt_cmpR op_le (pe_op op_add (pv 3) (pv 6)) (pv 1) (nomark _))
          (pss_one (ps_expr (pe_bm PySem.F.plainAttrs_list PySem.F.slot_list_append PySem.F.type_list_append mt_append (pv 5) (pa_cons (pe_tup (pa_cons (pe_tup (pa_cons pe_str (pa_cons (pv 6) pa_nil))) (pa_cons (pe_tup (pa_cons (pe_op op_add (pv 3) (pv 6)) (pa_cons (pv 4) pa_nil))) pa_nil))) pa_nil))))
          pss_nil)))
      (pss_cons (ps_for PassesOwn.never rfl (pi_list (pv 0)) (pg_name (i := 6) scMxs.nd rfl (Or.inl rfl))
        (pss_one (ps_if (pt_cmpR op_le (pv 6) (pv 3) (nomark _))
          (pss_one (ps_expr (pe_bm PySem.F.plainAttrs_list PySem.F.slot_list_append PySem.F.type_list_append mt_append (pv 5) (pa_cons (pe_tup (pa_cons (pe_tup (pa_cons pe_str (pa_cons (pv 6) pa_nil))) (pa_cons (pe_tup (pa_cons (pe_op op_sub (pv 3) (pv 6)) (pa_cons (pe_cal cW hr rfl pass0 (pa_cons (pe_op op_mulB (pit 4 0) (pe_op op_sub (pv 3) (pv 6))) (pa_cons (pe_op op_mulB (pit 4 1) (pv 3)) pa_nil))) pa_nil))) pa_nil))) pa_nil))))
          pss_nil)))
      (pss_one (ps_ret (pv 5)))))))), ?_⟩
    obtain ⟨q, hg, hq⟩ := mg'.g
    have ml := mg'.ml
    have lm : (ms.map V.int).length = ms.length := List.length_map ..
    have mb := mg'.mb
    have aT := mg'.am.t0
    have aB := mg'.am.b1
    have hF := mg'.f
    have hR := mg'.r
    refine ⟨_, rfl, g, _, rfl, hg.sq, rfl, _, _, rfl, _, _, rfl, rfl, (by show 0 ≤ sizeLine; decide), fun D hD => ?_⟩
    have s1 : Same H (upd H D (.lst [])) := Same.upd hD
    refine ⟨_, rfl, a, rfl, ⟨_, s1.seq mg'.sa⟩, ?_⟩
    refine for_list (xs := ms.map V.int) (fun i => Mw K a g q D H R F (((ms.take i).filter (fits R F)).map (sStrong F T B))) ⟨[], none, rfl, s1, upd_same, SL.nil, by simp⟩ ?_ ?_ ?_
    · rintro i σ H' _ ⟨_, _, rfl, sm, _⟩
      exact sm.seq mg'.sa
    · rintro i v σ H2 hv ⟨xs, v6, rfl, s2, hD2, sl, sl20⟩
      rw [List.getElem?_map] at hv
      obtain ⟨c, hc, rfl⟩ := Option.map_eq_some_iff.mp hv
      have cb := mb c (List.mem_of_getElem? hc)
      have hq2 := (Same.tk s2).sqz hq
      have sc := len_part ms i (fits R F) (sStrong F T B)
      have e := take_snoc hc (fits R F) (sStrong F T B)
      refine ⟨_, rfl, _, rfl, _, _, rfl, rfl, _, rfl, _, _, rfl, rfl, _, rfl, ite2 (fun hf => ?_) (fun hf => ?_)⟩
      · have hf' : F + c ≤ R := of_decide_eq_true hf
        rw [show fits R F c = true from decide_eq_true hf', if_pos rfl] at e
        rw [e]
        refine ⟨_, rfl, .inl ⟨rfl, _, SqL.of hD2⟩, _, rfl, (by show 2 ≤ sizeLine; decide), fun d hd => ?_⟩
        have t1 : Same H2 (upd H2 d (.tup [.str "strong", .int c])) := Same.upd hd
        refine ⟨_, rfl, _, rfl, _, _, rfl, rfl, q, _, _, rfl, ((Same.tk t1).sqz hq2).sq, rfl, _, rfl, q, _, _, rfl, ((Same.tk t1).sqz hq2).sq, rfl, _, _, rfl, rfl, ⟨bl (by omega) (by omega), b6 mg'.sb⟩, _, _, rfl, rfl, q, _, _, rfl, ((Same.tk t1).sqz hq2).sq, rfl, _, _, rfl, ?_, aB, mg'.sb.mono (by decide), fun r H4 s4 hr4 => ?_⟩
        · have := Int.mul_nonneg (show 0 ≤ c by omega) (show 0 ≤ B by omega)
          omega
        refine ⟨(by show 2 ≤ sizeLine; decide), fun gg hgg => ⟨(by show 2 ≤ sizeLine; decide), fun pp hpp => ?_⟩⟩
        have t2 := (Same.upd (o := .tup [.int (F + c), .ref r]) hgg)
        have t3 := (Same.upd (o := .tup [.ref d, .ref gg]) hpp)
        have t := ((t1.trans s4).trans t2).trans t3
        refine ⟨D, xs, .ref pp, rfl, rfl, t _ _ hD2, small1000 (by have := sl.1; omega), ?_⟩
        exact Mw.more hD s2 hD2 sl (by omega) t ⟨pp, d, gg, r, rfl, SqZ.of upd_same, SqZ.of (t3 _ _ (t2 _ _ (s4 _ _ upd_same))), SqZ.of (t3 _ _ upd_same), SqZ.of (t3 _ _ (t2 _ _ hr4))⟩
      · rw [show fits R F c = false from by cases hz : fits R F c with | false => rfl | true => exact absurd hz hf, if_neg Bool.false_ne_true, List.append_nil] at e
        rw [e]
        exact ⟨xs, _, rfl, s2, hD2, sl, sl20⟩
    · rintro σ H2 ⟨xs, v6, rfl, s2, hD2, sl, sl20⟩
      rw [lm, List.take_length] at sl sl20
      have z1 : ((ms.filter (fits R F)).map (sStrong F T B)).length ≤ 6 := by
        rw [List.length_map]
        exact Nat.le_trans (List.length_filter_le _ _) ml
      refine ⟨_, rfl, a, rfl, ⟨_, s2.seq mg'.sa⟩, ?_⟩
      refine for_list (xs := ms.map V.int) (fun i => Mw K a g q D H R F ((ms.filter (fits R F)).map (sStrong F T B) ++ ((ms.take i).filter (fits R F)).map (sThin F T B))) ⟨xs, v6, rfl, s2, hD2, by simpa using sl, by simpa using sl20⟩ ?_ ?_ ?_
      · rintro i σ H' _ ⟨_, _, rfl, sm, _⟩
        exact sm.seq mg'.sa
      · rintro i v σ H2 hv ⟨xs, v6, rfl, s2, hD2, sl, sl20⟩
        rw [List.getElem?_map] at hv
        obtain ⟨c, hc, rfl⟩ := Option.map_eq_some_iff.mp hv
        have cb := mb c (List.mem_of_getElem? hc)
        have sc := len_part ms i (fits R F) (sThin F T B)
        have e := take_snoc hc (fits R F) (sThin F T B)
        refine ⟨_, rfl, _, rfl, _, _, rfl, rfl, _, rfl, _, _, rfl, rfl, _, rfl, ite2 (fun hf => ?_) (fun hf => ?_)⟩
        · have hf' : F + c ≤ R := of_decide_eq_true hf
          rw [show fits R F c = true from decide_eq_true hf', if_pos rfl] at e
          rw [e, ← List.append_assoc]
          refine ⟨_, rfl, .inl ⟨rfl, _, SqL.of hD2⟩, _, rfl, (by show 2 ≤ sizeLine; decide), fun d hd => ?_⟩
          have t1 : Same H2 (upd H2 d (.tup [.str "thin", .int c])) := Same.upd hd
          refine ⟨_, rfl, _, rfl, _, _, rfl, rfl, _, rfl, (by show 2 ≤ sizeLine; decide), fun gg hgg => ⟨(by show 2 ≤ sizeLine; decide), fun pp hpp => ?_⟩⟩
          have t2 := (Same.upd (o := .tup [.int (F + c), .ref q]) hgg)
          have t3 := (Same.upd (o := .tup [.ref d, .ref gg]) hpp)
          have t := (t1.trans t2).trans t3
          have hq4 := (Same.tk (s2.trans t)).sqz hq
          refine ⟨D, xs, .ref pp, rfl, rfl, t _ _ hD2, small1000 (by have := sl.1; omega), ?_⟩
          exact Mw.more hD s2 hD2 sl (by rw [List.length_append]; omega) t ⟨pp, d, gg, q, rfl, SqZ.of upd_same, SqZ.of (t3 _ _ (t2 _ _ upd_same)), SqZ.of (t3 _ _ upd_same), hq4⟩
        · rw [show fits R F c = false from by cases hz : fits R F c with | false => rfl | true => exact absurd hz hf, if_neg Bool.false_ne_true, List.append_nil] at e
          rw [e]
          exact ⟨xs, _, rfl, s2, hD2, sl, sl20⟩
      · rintro σ H2 ⟨xs, v6, rfl, s2, hD2, sl, sl20⟩
        rw [lm, List.take_length] at sl sl20
        have z2 : ((ms.filter (fits R F)).map (sThin F T B)).length ≤ 6 := by
          rw [List.length_map]
          exact Nat.le_trans (List.length_filter_le _ _) ml
        refine ⟨_, rfl, a, rfl, ⟨_, s2.seq mg'.sa⟩, ?_⟩
        refine for_list (xs := ms.map V.int) (fun i => Mw K a g q D H R F ((ms.filter (fits R F)).map (sStrong F T B) ++ (ms.filter (fits R F)).map (sThin F T B) ++ ((ms.take i).filter (less' F)).map (sOff F T B))) ⟨xs, v6, rfl, s2, hD2, by simpa using sl, by simpa using sl20⟩ ?_ ?_ ?_
        · rintro i σ H' _ ⟨_, _, rfl, sm, _⟩
          exact sm.seq mg'.sa
        · rintro i v σ H2 hv ⟨xs, v6, rfl, s2, hD2, sl, sl20⟩
          rw [List.getElem?_map] at hv
          obtain ⟨c, hc, rfl⟩ := Option.map_eq_some_iff.mp hv
          have cb := mb c (List.mem_of_getElem? hc)
          have hq2 := (Same.tk s2).sqz hq
          have sc := len_part ms i (less' F) (sOff F T B)
          have e := take_snoc hc (less' F) (sOff F T B)
          refine ⟨_, rfl, _, rfl, _, _, rfl, rfl, _, rfl, ite2 (fun hf => ?_) (fun hf => ?_)⟩
          · have hf' : c ≤ F := of_decide_eq_true hf
            rw [show less' F c = true from decide_eq_true hf', if_pos rfl] at e
            rw [e, ← List.append_assoc]
            refine ⟨_, rfl, .inl ⟨rfl, _, SqL.of hD2⟩, _, rfl, (by show 2 ≤ sizeLine; decide), fun d hd => ?_⟩
            have t1 : Same H2 (upd H2 d (.tup [.str "off", .int c])) := Same.upd hd
            have bF : Bt 20 F := bt_lt 20 (c := 10001) hF.1 (by omega)
            have bf : 1 ≤ B * F := by
              have := Int.mul_le_mul aB (show 1 ≤ F by omega) (by decide) (by omega)
              omega
            refine ⟨_, rfl, _, rfl, _, _, rfl, rfl, q, _, _, rfl, ((Same.tk t1).sqz hq2).sq, rfl, _, rfl, _, rfl, _, _, rfl, rfl, _, _, rfl, rfl, ⟨b6 mg'.st, bl (by omega) (by omega)⟩, q, _, _, rfl, ((Same.tk t1).sqz hq2).sq, rfl, _, rfl, _, _, rfl, rfl, ⟨b6 mg'.sb, bl hF.1 (by omega)⟩, _, _, rfl, Int.mul_nonneg aT (by omega), bf, (mg'.sb.mul bF).mono (by decide), fun r H4 s4 hr4 => ?_⟩
            refine ⟨(by show 2 ≤ sizeLine; decide), fun gg hgg => ⟨(by show 2 ≤ sizeLine; decide), fun pp hpp => ?_⟩⟩
            have t2 := (Same.upd (o := .tup [.int (F - c), .ref r]) hgg)
            have t3 := (Same.upd (o := .tup [.ref d, .ref gg]) hpp)
            have t := ((t1.trans s4).trans t2).trans t3
            refine ⟨D, xs, .ref pp, rfl, rfl, t _ _ hD2, small1000 (by have := sl.1; omega), ?_⟩
            exact Mw.more hD s2 hD2 sl (by rw [List.length_append, List.length_append]; omega) t ⟨pp, d, gg, r, rfl, SqZ.of upd_same, SqZ.of (t3 _ _ (t2 _ _ (s4 _ _ upd_same))), SqZ.of (t3 _ _ upd_same), SqZ.of (t3 _ _ (t2 _ _ hr4))⟩
          · rw [show less' F c = false from by cases hz : less' F c with | false => rfl | true => exact absurd hz hf, if_neg Bool.false_ne_true, List.append_nil] at e
            rw [e]
            exact ⟨xs, _, rfl, s2, hD2, sl, sl20⟩
        · rintro σ H2 ⟨xs, v6, rfl, s2, hD2, sl, sl20⟩
          rw [lm, List.take_length] at sl
          exact ⟨_, rfl, k D H2 xs s2 hD hD2 sl⟩
end
end K64

namespace K64
open PySem PySem.Spec PyProof.Rows L2 GM TM BF BE
theorem filt_map (ms : List Int) (p : V → Bool) (q : Int → Bool) (h : ∀ m, p (.int m) = q m) : (ms.map V.int).filter p = (ms.filter q).map V.int := by
  rw [List.filter_map]
  congr 1
  refine List.filter_congr fun m _ => ?_
  exact h m
def vInt : V → Int
  | .int n => n
  | _ => 0
section
variable {P : Program} {w : World} {K : PySem.W.Frag} {mg : Str → Option Value} {base : Heap}
abbrev Nst : List Str := ["measures", "room", "mixing", "full", "strong", "fitting", "found", "measure", "left"]
theorem scSteps : FnScope Nst ["measures", "room", "mixing"] (defScope sSteps) := ⟨rfl, rfl, rfl, by decide +kernel, rfl, by decide +kernel, by decide +kernel⟩
theorem nd1 : (["measure", "full", "room"] : List Str).Nodup := by decide +kernel
theorem nd2 : (["measure", "full", "strong"] : List Str).Nodup := by decide +kernel
theorem ok_steps {f : Addr} {fd : FuncData} (F' : Fun K "steps_from" "steps_from" sSteps f fd) (cP : Cal P w K mg base CX0 3 "plus" ["one", "other"] (spPlus K)) (cT : Cal P w K mg base CX0 3 "times" ["one", "other"] (spTimes K)) (cA : Cal P w K mg base CX0 3 "amount" ["top", "bottom"] (spAmount K)) : FnOk P w K mg base CX0 4 f fd ["measures", "room", "mixing"] (spSteps K) := by
  refine F'.ok scSteps (fun vs H Q E h => ?_) (fun cdv A outer s H vs Q E hr h => ?_)
  · obtain ⟨_, _, _, _, _, _, _, rfl, _⟩ := h
    rfl
  · obtain ⟨a, g, ms, R, F, T, B, rfl, mg', k⟩ := h
    refine ⟨_, (pss_cons (ps_set (i := 3) scSteps.nd rfl (Or.inr rfl) (pit 2 0))
      (pss_cons (ps_set (i := 4) scSteps.nd rfl (Or.inr rfl) (pit 2 1))
      (pss_cons (ps_compC (iy := 5) (N' := ["measure", "full", "room"]) (fun σ => [none, some 3, some 1].map fun t => t.bind fun j => (σ[j]?).join) rfl rfl (by decide +kernel) (by decide +kernel)
          (hk_of (sc := defScope sSteps) rfl (by decide +kernel)) (fun _ _ _ => blkN_by (sc := defScope sSteps) (N := Nst) [none, some 3, some 1] rfl rfl rfl rfl (by decide +kernel))
          (pi_list (pv 0)) (fun _ _ _ _ _ _ => pg_name (i := 0) nd1 rfl (Or.inl rfl)) (fun _ _ _ _ _ _ => pifs_one (pt_cmpR op_le (pe_op op_add (pv 1) (pv 0)) (pv 2) (nomark _))) (fun _ _ _ _ _ _ => pv 0) scSteps.nd rfl (Or.inl rfl) (Or.inr rfl) rfl)
      (pss_cons (ps_compC (iy := 6) (N' := ["measure", "full", "strong"]) (fun σ => [none, some 3, some 4].map fun t => t.bind fun j => (σ[j]?).join) rfl rfl (by decide +kernel) (by decide +kernel)
          (hk_of (sc := defScope sSteps) rfl (by decide +kernel)) (fun _ _ _ => blkN_by (sc := defScope sSteps) (N := Nst) [none, some 3, some 4] rfl rfl rfl rfl (by decide +kernel))
          (pi_list (pv 5)) (fun _ _ _ _ _ _ => pg_name (i := 0) nd2 rfl (Or.inl rfl)) (fun _ _ _ _ _ _ => pifs_nil)
          (fun _ _ _ _ _ _ => pe_tup (pa_cons (pe_tup (pa_cons pe_str (pa_cons (pv 0) pa_nil))) (pa_cons (pe_tup (pa_cons (pe_op op_add (pv 1) (pv 0)) (pa_cons (pe_cal cP hr rfl pass0 (pa_cons (pv 2) (pa_cons (pe_tup (pa_cons (pv 0) (pa_cons pe_int pa_nil))) pa_nil))) pa_nil))) pa_nil))) scSteps.nd rfl (Or.inl rfl) (Or.inr rfl) rfl)
      (pss_cons (ps_expr (pe_bm PySem.F.plainAttrs_list PySem.F.slot_list_extend PySem.F.type_list_extend mt_extend (pv 6) (pa_cons (pe_compC (N' := ["measure", "full", "strong"]) (fun σ => [none, some 3, some 4].map fun t => t.bind fun j => (σ[j]?).join) rfl rfl (by decide +kernel) (by decide +kernel)
          (hk_of (sc := defScope sSteps) rfl (by decide +kernel)) (fun _ _ _ => blkN_by (sc := defScope sSteps) (N := Nst) [none, some 3, some 4] rfl rfl rfl rfl (by decide +kernel))
          (pi_list (pv 5)) (fun _ _ _ _ _ _ => pg_name (i := 0) nd2 rfl (Or.inl rfl)) (fun _ _ _ _ _ _ => pifs_nil)
          (fun _ _ _ _ _ _ => pe_tup (pa_cons (pe_tup (pa_cons pe_str (pa_cons (pv 0) pa_nil))) (pa_cons (pe_tup (pa_cons (pe_op op_add (pv 1) (pv 0)) (pa_cons (pv 2) pa_nil))) pa_nil)))) pa_nil)))
      (pss_cons (ps_for PassesOwn.never rfl (pi_list (pv 0)) (pg_name (i := 7) scSteps.nd rfl (Or.inl rfl))
        (pss_one (ps_if (pt_cmpR op_le (pv 7) (pv 3) (nomark _))
          (pss_cons (ps_set (i := 8) scSteps.nd rfl (Or.inl rfl) (pe_op op_sub (pv 3) (pv 7)))
          (pss_one (ps_expr (pe_bm PySem.F.plainAttrs_list PySem.F.slot_list_append PySem.F.type_list_append mt_append (pv 6) (pa_cons (pe_tup (pa_cons (pe_tup (pa_cons pe_str (pa_cons (pv 7) pa_nil))) (pa_cons (pe_tup (pa_cons (pv 8) (pa_cons (pe_cal cT hr rfl pass0 (pa_cons (pv 4) (pa_cons (pe_cal cA hr rfl pass0 (pa_cons (pv 8) (pa_cons (pv 3) pa_nil))) pa_nil))) pa_nil))) pa_nil))) pa_nil)))))
          pss_nil)))
      (pss_one (ps_ret (pv 6))))))))), ?_⟩
    obtain ⟨q, hg, hq⟩ := mg'.g
    have ml := mg'.ml
    have lm : (ms.map V.int).length = ms.length := List.length_map ..
    have mb := mg'.mb
    have aT := mg'.am.t0
    have aB := mg'.am.b1
    have hF := mg'.f
    have hR := mg'.r
    refine ⟨g, _, _, rfl, hg.sq, rfl, g, _, _, rfl, hg.sq, rfl, _, rfl, a, rfl, ⟨_, mg'.sa⟩, fun D1 hD1 => ?_⟩
    -- fitting
    refine comp_filt (Ys.list mg'.sa) (fun v => fits R F (vInt v)) (fun x y _ => y = x) (fun _ _ _ _ h _ => h) hD1 (by omega) (fun i x H' R1 R2 hx sm h1 h2 => ?_) (fun ys H2 sm2 hD2 yl hy => ?_)
    · rw [List.getElem?_map] at hx
      obtain ⟨c, hc, rfl⟩ := Option.map_eq_some_iff.mp hx
      refine ⟨(Keep.refl _).set rfl, _, rfl, _, rfl, _, _, rfl, rfl, _, rfl, _, _, rfl, rfl, _, rfl, ite2 (fun hf => ?_) (fun hf => ?_)⟩
      · exact ⟨_, rfl, h1 hf _ _ (Same.refl _) rfl⟩
      · exact h2 (by cases hz : fits R F c with | false => exact hz | true => exact absurd hz hf) _ (Same.refl _)
    have ey : ys = (ms.filter (fits R F)).map V.int := by
      have e := filt_map ms (fun v => fits R F (vInt v)) (fits R F) fun _ => rfl
      rw [e] at yl hy
      refine List.ext_getElem? fun i => ?_
      by_cases hi : i < ys.length
      · obtain ⟨x, hx⟩ : ∃ x, ((ms.filter (fits R F)).map V.int)[i]? = some x := ⟨_, List.getElem?_eq_getElem (by omega)⟩
        obtain ⟨y, hy'⟩ : ∃ y, ys[i]? = some y := ⟨_, List.getElem?_eq_getElem hi⟩
        rw [hx, hy', hy i x y hx hy']
      · rw [List.getElem?_eq_none (by omega), List.getElem?_eq_none (by omega)]
    subst ey
    have fl : (ms.filter (fits R F)).length ≤ 6 := Nat.le_trans (List.length_filter_le _ _) ml
    have lf : ((ms.filter (fits R F)).map V.int).length = (ms.filter (fits R F)).length := List.length_map ..
    have fb : ∀ {i : Nat} {x : V}, ((ms.filter (fits R F)).map V.int)[i]? = some x → ∃ c, (ms.filter (fits R F))[i]? = some c ∧ x = .int c ∧ 1 ≤ c ∧ c ≤ 1000 := fun {i x} hx => by
      rw [List.getElem?_map] at hx
      obtain ⟨c, hc, rfl⟩ := Option.map_eq_some_iff.mp hx
      have := mb c (List.mem_filter.mp (List.mem_of_getElem? hc)).1
      exact ⟨c, hc, rfl, this⟩
    -- strong
    refine ⟨_, rfl, D1, rfl, ⟨_, SqL.of hD2⟩, fun D3 hD3 => ?_⟩
    refine comp_rel (Ys.list (SqL.of hD2)) (fun _ x y H => Sp5 K H y (sStrong F T B (vInt x))) (fun _ _ _ _ _ h k => h.keep k) hD3 (by omega) (fun i x H' R1 hx sm h1 => ?_) (fun xs3 H3 sm3 hD3' xl3 hy3 => ?_)
    · obtain ⟨c, hc, rfl, c1, c2⟩ := fb hx
      have hq' := (Same.tk (sm2.trans sm)).sqz hq
      refine ⟨(Keep.refl _).set rfl, _, rfl, (by show 2 ≤ sizeLine; decide), fun d hd => ?_⟩
      have t1 : Same H' (upd H' d (.tup [.str "strong", .int c])) := Same.upd hd
      refine ⟨_, rfl, _, rfl, _, _, rfl, rfl, _, rfl, _, rfl, (by show 2 ≤ sizeLine; decide), fun z hz => ?_⟩
      have t2 := (Same.upd (o := .tup [.int c, .int 1]) hz)
      refine ⟨q, z, T, B, c, 1, rfl, ⟨(Same.tk (t1.trans t2)).sqz hq', SqZ.of upd_same, aT, aB, by omega, by decide, mg'.st.mono (by decide), mg'.sb.mono (by decide), bt_lt 4000 (c := 1001) (by omega) (by omega), bt_lt 4000 (c := 2) (by decide) (by decide)⟩, amt_one (by omega), fun r H4 s4 hr4 => ?_⟩
      refine ⟨(by show 2 ≤ sizeLine; decide), fun gg hgg => ⟨(by show 2 ≤ sizeLine; decide), fun pp hpp => ?_⟩⟩
      have t3 := (Same.upd (o := .tup [.int (F + c), .ref r]) hgg)
      have t4 := (Same.upd (o := .tup [.ref d, .ref gg]) hpp)
      refine h1 _ _ ((((t1.trans t2).trans s4).trans t3).trans t4) ⟨pp, d, gg, r, rfl, SqZ.of upd_same, SqZ.of (t4 _ _ (t3 _ _ (s4 _ _ (t2 _ _ upd_same)))), SqZ.of (t4 _ _ upd_same), ?_⟩
      have hr5 := (Same.tk t4).sqz ((Same.tk t3).sqz hr4)
      rw [Int.mul_one, Int.mul_one] at hr5
      exact hr5
    have sl3 : SL K H3 xs3 ((ms.filter (fits R F)).map (sStrong F T B)) := by
      refine ⟨by rw [xl3, lf, List.length_map], fun j v s hv hs => ?_⟩
      rw [List.getElem?_map] at hs
      obtain ⟨c, hc, rfl⟩ := Option.map_eq_some_iff.mp hs
      exact hy3 j (.int c) v (by rw [List.getElem?_map, hc]; rfl) hv
    have s03 := sm2.trans sm3
    -- thin
    refine ⟨_, rfl, .inl ⟨rfl, _, SqL.of hD3'⟩, _, rfl, D1, rfl, ⟨_, SqL.of (sm3 _ _ hD2)⟩, fun D4 hD4 => ?_⟩
    refine comp_rel (Ys.list (SqL.of (sm3 _ _ hD2))) (fun _ x y H => Sp5 K H y (sThin F T B (vInt x))) (fun _ _ _ _ _ h k => h.keep k) hD4 (by omega) (fun i x H' R1 hx sm h1 => ?_) (fun xs4 H4 sm4 hD4' xl4 hy4 => ?_)
    · obtain ⟨c, hc, rfl, c1, c2⟩ := fb hx
      have hq' := (Same.tk (s03.trans sm)).sqz hq
      refine ⟨(Keep.refl _).set rfl, _, rfl, (by show 2 ≤ sizeLine; decide), fun d hd => ?_⟩
      have t1 : Same H' (upd H' d (.tup [.str "thin", .int c])) := Same.upd hd
      refine ⟨_, rfl, _, rfl, _, _, rfl, rfl, _, rfl, (by show 2 ≤ sizeLine; decide), fun gg hgg => ⟨(by show 2 ≤ sizeLine; decide), fun pp hpp => ?_⟩⟩
      have t3 := (Same.upd (o := .tup [.int (F + c), .ref q]) hgg)
      have t4 := (Same.upd (o := .tup [.ref d, .ref gg]) hpp)
      exact h1 _ _ ((t1.trans t3).trans t4) ⟨pp, d, gg, q, rfl, SqZ.of upd_same, SqZ.of (t4 _ _ (t3 _ _ upd_same)), SqZ.of (t4 _ _ upd_same), (Same.tk ((t1.trans t3).trans t4)).sqz hq'⟩
    have sl4 : SL K H4 xs4 ((ms.filter (fits R F)).map (sThin F T B)) := by
      refine ⟨by rw [xl4, lf, List.length_map], fun j v s hv hs => ?_⟩
      rw [List.getElem?_map] at hs
      obtain ⟨c, hc, rfl⟩ := Option.map_eq_some_iff.mp hs
      exact hy4 j (.int c) v (by rw [List.getElem?_map, hc]; rfl) hv
    have s04 := s03.trans sm4
    have hD34 := sm4 _ _ hD3'
    have n34 : D4 ≠ D3 := fun e => by rw [e] at hD4; rw [hD4] at hD3'; cases hD3'
    have l3 := sl3.1
    have l4 := sl4.1
    rw [List.length_map] at l3 l4
    refine ⟨D3, D4, xs3, xs4, rfl, rfl, hD34, hD4', sz1000 (by omega), ?_⟩
    have hD30 : H D3 = none := by
      cases e : H D3 with
      | none => rfl
      | some o => rw [sm2 _ _ e] at hD3; cases hD3
    have tk5 : Tk H4 (upd H4 D3 (.lst (xs3 ++ xs4))) := Tk.lst hD34
    have s05 : Same H (upd H4 D3 (.lst (xs3 ++ xs4))) := fun b o hb => by
      rw [upd_ne (ne_of_none hb hD30)]
      exact s04 _ _ hb
    have sl5 : SL K (upd H4 D3 (.lst (xs3 ++ xs4))) (xs3 ++ xs4) ((ms.filter (fits R F)).map (sStrong F T B) ++ (ms.filter (fits R F)).map (sThin F T B)) := ((sl3.keep (Same.tk sm4)).keep tk5).append (sl4.keep tk5)
    -- off
    refine ⟨_, rfl, a, rfl, ⟨_, s05.seq mg'.sa⟩, ?_⟩
    refine for_list (xs := ms.map V.int) (fun i σ H' => ∃ (xs : List V) (v7 v8 : Option V), σ = [some (.ref a), some (.int R), some (.ref g), some (.int F), some (.ref q), some (.ref D1), some (.ref D3), v7, v8] ∧ Same H H' ∧ H' D3 = some (.lst xs) ∧ SL K H' xs ((ms.filter (fits R F)).map (sStrong F T B) ++ (ms.filter (fits R F)).map (sThin F T B) ++ ((ms.take i).filter (less' F)).map (sOff F T B)))
      ⟨xs3 ++ xs4, none, none, rfl, s05, upd_same, by simpa using sl5⟩ ?_ ?_ ?_
    · rintro i σ H' _ ⟨_, _, _, rfl, sm, _⟩
      exact sm.seq mg'.sa
    · rintro i v σ H6 hv ⟨xs, v7, v8, rfl, s6, hD6, sl⟩
      rw [List.getElem?_map] at hv
      obtain ⟨c, hc, rfl⟩ := Option.map_eq_some_iff.mp hv
      have cb := mb c (List.mem_of_getElem? hc)
      have hq6 := (Same.tk s6).sqz hq
      have sc := len_part ms i (less' F) (sOff F T B)
      have sl1 := sl.1
      rw [List.length_append, List.length_append, List.length_map, List.length_map] at sl1
      have e := take_snoc hc (less' F) (sOff F T B)
      refine ⟨_, rfl, _, rfl, _, _, rfl, rfl, _, rfl, ite2 (fun hf => ?_) (fun hf => ?_)⟩
      · have hf' : c ≤ F := of_decide_eq_true hf
        rw [show less' F c = true from decide_eq_true hf', if_pos rfl] at e
        rw [e, ← List.append_assoc]
        refine ⟨_, rfl, _, rfl, _, _, rfl, rfl, ?_⟩
        refine ⟨_, rfl, .inl ⟨rfl, _, SqL.of hD6⟩, _, rfl, (by show 2 ≤ sizeLine; decide), fun d hd => ?_⟩
        have t1 : Same H6 (upd H6 d (.tup [.str "off", .int c])) := Same.upd hd
        refine ⟨_, rfl, _, rfl, _, rfl, _, rfl, F - c, F, rfl, by omega, by omega, b9 hF.1 (by omega), fun r1 H7 s7 hr7 => ?_⟩
        have am7 := low_amt (t := F - c) (b := F) (by omega) (by omega)
        have bF : Bt 20 F := bt_lt 20 (c := 10001) hF.1 (by omega)
        have bFc : Bt 20 (F - c) := bt_lt 20 (c := 10001) (by omega) (by omega)
        refine ⟨q, r1, T, B, _, _, rfl, ⟨(Same.tk (t1.trans s7)).sqz hq6, hr7, aT, aB, am7.t0, am7.b1, mg'.st.mono (by decide), mg'.sb.mono (by decide), (bFc.div (by omega)).mono (by decide), (bF.div hF.1).mono (by decide)⟩, fun r H8 s8 hr8 => ?_⟩
        have oe := off_eq (T := T) (B := B) (F := F) (m := c) aT aB (by omega) hf'
        unfold lt' lb' at oe
        rw [oe.1, oe.2] at hr8
        refine ⟨(by show 2 ≤ sizeLine; decide), fun gg hgg => ⟨(by show 2 ≤ sizeLine; decide), fun pp hpp => ?_⟩⟩
        have t3 := (Same.upd (o := .tup [.int (F - c), .ref r]) hgg)
        have t4 := (Same.upd (o := .tup [.ref d, .ref gg]) hpp)
        have t := (((t1.trans s7).trans s8).trans t3).trans t4
        have hDt := t _ _ hD6
        refine ⟨D3, xs, .ref pp, rfl, rfl, hDt, small1000 (by omega), ?_⟩
        have tkl := Tk.lst (o := .lst (xs ++ [.ref pp])) hDt
        refine ⟨xs ++ [.ref pp], _, _, rfl, fun b o hb => ?_, upd_same, ((sl.keep (Same.tk t)).keep tkl).snoc (Sp5.keep ⟨pp, d, gg, r, rfl, SqZ.of upd_same, SqZ.of (t4 _ _ (t3 _ _ (s8 _ _ (s7 _ _ upd_same)))), SqZ.of (t4 _ _ upd_same), (Same.tk t4).sqz ((Same.tk t3).sqz hr8)⟩ tkl)⟩
        rw [upd_ne (ne_of_none hb hD30)]
        exact t _ _ (s6 _ _ hb)
      · rw [show less' F c = false from by cases hz : less' F c with | false => rfl | true => exact absurd hz hf, if_neg Bool.false_ne_true, List.append_nil] at e
        rw [e]
        exact ⟨xs, _, _, rfl, s6, hD6, sl⟩
    · rintro σ H6 ⟨xs, v7, v8, rfl, s6, hD6, sl⟩
      rw [lm, List.take_length] at sl
      exact ⟨_, rfl, k D3 H6 xs s6 hD30 hD6 sl⟩
end
end K64

namespace K64
open PySem PySem.Spec PyProof.Rows L2 GM TM BF BE
/-- a mixing's strength, told by strength and by the law -/
def spStr (K : PySem.W.Frag) : Sp := fun vs H Q _ => ∃ (g q : Addr) (F T B : Int), vs = [.ref g] ∧ SqZ K H g [.int F, .ref q] ∧ SqZ K H q [.int T, .int B] ∧ Amt T B ∧ Bt 1500 T ∧ Bt 1500 B ∧ 1 ≤ F ∧ F ≤ 10000 ∧ RetZ K H Q [lt' T (B * F), lb' T (B * F)]
theorem clOk_plain {X : Cx} {scope : Scope} (h : ∀ y ∈ scope.names, y.2 = .local ∨ y.2 = .globalImplicit) : ClOk X scope [] := by
  refine ⟨closureFor_none fun x hx z => ?_, fun x c e => by simp at e, fun x e => ?_⟩
  · rcases h x hx with q | q <;> rw [q] at z <;> cases z
  · exfalso
    have e' : ∃ k, (k = NameKind.cell ∨ k = NameKind.free) ∧ (relabel scope X.env).names.lookup x = some k := by
      rcases e with e | e
      · exact ⟨_, .inl rfl, e⟩
      · exact ⟨_, .inr rfl, e⟩
    obtain ⟨k, hk, e⟩ := e'
    have hm := PySem.mem_of_lookup e
    obtain ⟨y, hy, hy2⟩ := List.mem_map.mp hm
    have hl := h y hy
    obtain ⟨n, kk⟩ := y
    simp only at hl
    rcases hl with hl | hl <;> subst hl <;> simp at hy2 <;> rcases hk with rfl | rfl <;> exact absurd hy2.2 (by decide)
section
variable {P : Program} {w : World} {K : PySem.W.Frag} {mg : Str → Option Value} {base : Heap}
theorem scStr : FnScope ["mixing"] ["mixing"] (defScope sStr) := ⟨rfl, rfl, rfl, by decide +kernel, rfl, by decide +kernel, by decide +kernel⟩
theorem ok_str {f : Addr} {fd : FuncData} (F' : Fun K "strength" "strength" sStr f fd) (cO : Cal P w K mg base CX0 3 "over" ["one", "other"] (spOver K)) : FnOk P w K mg base CX0 4 f fd ["mixing"] (spStr K) := by
  refine F'.ok scStr (fun vs H Q E h => ?_) (fun cdv A outer s H vs Q E hr h => ?_)
  · obtain ⟨_, _, _, _, _, rfl, _⟩ := h
    rfl
  · obtain ⟨g, q, F, T, B, rfl, hg, hq, am, st, sb, f1, f2, k⟩ := h
    refine ⟨_, (pss_one (ps_ret (pe_cal cO hr rfl pass0 (pa_cons (pit 0 1) (pa_cons (pe_tup (pa_cons (pit 0 0) (pa_cons pe_int pa_nil))) pa_nil))))), ?_⟩
    refine ⟨g, _, _, rfl, hg.sq, rfl, g, _, _, rfl, hg.sq, rfl, (by show 2 ≤ sizeLine; decide), fun z hz => ?_⟩
    have t1 : Same H (upd H z (.tup [.int F, .int 1])) := Same.upd hz
    refine ⟨q, z, T, B, F, 1, rfl, ⟨(Same.tk t1).sqz hq, SqZ.of upd_same, am.t0, am.b1, by omega, by decide, st.mono (by decide), sb.mono (by decide), bt_lt 4000 (c := 10001) (by omega) (by omega), bt_lt 4000 (c := 2) (by decide) (by decide)⟩, f1, fun p H' sm hp => k p H' (t1.trans sm) ?_⟩
    rw [Int.mul_one] at hp
    exact hp
theorem scLstr : FnScope ["_law_mixing"] ["_law_mixing"] (defScope sLstr) := ⟨rfl, rfl, rfl, by decide +kernel, rfl, by decide +kernel, by decide +kernel⟩
theorem ok_lstr {f : Addr} {fd : FuncData} (F' : Fun K "_law_strength" "_law_strength" sLstr f fd) (cW : Cal P w K mg base CX0 2 "_law_low" ["_law_top", "_law_bottom"] spLow) : FnOk P w K mg base CX0 3 f fd ["_law_mixing"] (spStr K) := by
  refine F'.ok scLstr (fun vs H Q E h => ?_) (fun cdv A outer s H vs Q E hr h => ?_)
  · obtain ⟨_, _, _, _, _, rfl, _⟩ := h
    rfl
  · obtain ⟨g, q, F, T, B, rfl, hg, hq, am, st, sb, f1, f2, k⟩ := h
    refine ⟨_, (pss_one (ps_ret (pe_cal cW hr rfl pass0 (pa_cons (pe_ix ix_tup (pit 0 1) pe_int (fun _ _ => rfl)) (pa_cons (pe_op op_mulB (pe_ix ix_tup (pit 0 1) pe_int (fun _ _ => rfl)) (pit 0 0)) pa_nil))))), ?_⟩
    have b1 := am.b1
    have bF : Bt 20 F := bt_lt 20 (c := 10001) (by omega) (by omega)
    have bf : 1 ≤ B * F := by
      have := Int.mul_le_mul b1 f1 (by decide) (by omega)
      omega
    exact ⟨g, _, _, rfl, hg.sq, rfl, q, _, 0, .int T, rfl, rfl, hq.sq, rfl, g, _, _, rfl, hg.sq, rfl, q, _, 1, .int B, rfl, rfl, hq.sq, rfl, g, _, _, rfl, hg.sq, rfl, _, _, rfl, rfl, ⟨b6 sb, bl (by omega) (by omega)⟩, T, B * F, rfl, am.t0, bf, (sb.mul bF).mono (by decide), fun p H' sm hp => k p H' sm (SqZ.of hp)⟩
end
end K64

namespace K64
open PySem PySem.Spec PyProof.Rows L2 GM TM BF BE
/-! ### the measures -/
structure MsOk (ms : List Int) : Prop where
  l1 : 1 ≤ ms.length
  l3 : ms.length ≤ 3
  b : ∀ m ∈ ms, 1 ≤ m ∧ m ≤ 1000
  so : ms.Pairwise (· < ·)
def spMeas : Sp := fun vs H Q _ => ∃ n : Int, vs = [.int n] ∧ ∀ (p : Addr) (ms : List Int) H', Same H H' → H' p = some (.lst (ms.map V.int)) → MsOk ms → Q (.ref p) H'
def spMby : Sp := fun vs H Q _ => ∃ n : Int, vs = [.int n, .int 3] ∧ ∀ (p : Addr) (ms : List Int) H', Same H H' → H' p = some (.lst (ms.map V.int)) → MsOk ms → Q (.ref p) H'
section
variable {P : Program} {w : World} {K : PySem.W.Frag} {mg : Str → Option Value} {base : Heap}
theorem put_keys {kvs : List (Key × V)} {ns : List Int} {c : Int} {v : V} (h : kvs.map (·.1) = ns.map Sum.inl) : ∃ ns' : List Int, (putK kvs (Sum.inl c) v).map (·.1) = ns'.map Sum.inl ∧ (∀ n ∈ ns', n ∈ ns ∨ n = c) ∧ ns'.length ≤ ns.length + 1 ∧ 1 ≤ ns'.length ∧ (ns.Nodup → ns'.Nodup) := by
  unfold putK
  split
  · rename_i ha
    have kl : kvs.length = ns.length := by
      have := congrArg List.length h
      rwa [List.length_map, List.length_map] at this
    refine ⟨ns, ?_, fun n hn => .inl hn, Nat.le_succ _, ?_, fun h => h⟩
    rotate_left
    · obtain ⟨x, hx, _⟩ := List.any_eq_true.mp ha
      have := List.length_pos_of_mem hx
      omega
    rw [← h, List.map_map]
    refine List.map_congr_left fun kv _ => ?_
    show (if kv.1 = Sum.inl c then (kv.1, v) else kv).1 = kv.1
    split <;> rfl
  · rename_i ha
    refine ⟨ns ++ [c], by rw [List.map_append, List.map_append, h]; rfl, fun n hn => ?_, by rw [List.length_append]; exact Nat.le_refl _, by rw [List.length_append]; exact Nat.le_add_left .., fun nd => List.nodup_append.mpr ⟨nd, List.pairwise_singleton .., fun a hm b hb => ?_⟩⟩
    rotate_left
    · rw [List.mem_singleton.mp hb]
      intro z
      subst z
      refine ha (List.any_eq_true.mpr ?_)
      have : Sum.inl a ∈ kvs.map (·.1) := by rw [h]; exact List.mem_map.mpr ⟨a, hm, rfl⟩
      obtain ⟨kv, h1, h2⟩ := List.mem_map.mp this
      exact ⟨kv, h1, decide_eq_true h2⟩
    rcases List.mem_append.mp hn with hn | hn
    · exact .inl hn
    · exact .inr (List.mem_singleton.mp hn)
theorem scMby : FnScope ["_law_cell", "_law_many", "_law_left", "_law_more", "_law_found", "_law_k"] ["_law_cell", "_law_many"] (defScope sMby) := ⟨rfl, rfl, rfl, by decide +kernel, rfl, by decide +kernel, by decide +kernel⟩
theorem ok_mby {f : Addr} {fd : FuncData} (F' : Fun K "_law_measures_by" "_law_measures_by" sMby f fd) (T : Txt mg) : FnOk P w K mg base CX0 1 f fd ["_law_cell", "_law_many"] spMby := by
  refine F'.ok scMby (fun vs H Q E h => ?_) (fun cdv A outer s H vs Q E hr h => ?_)
  · obtain ⟨_, rfl, _⟩ := h
    rfl
  · obtain ⟨n, rfl, k⟩ := h
    refine ⟨_, (pss_cons (ps_set (i := 2) scMby.nd rfl (Or.inl rfl) (pe_op op_fdivB (pe_callB call_abs rfl T.abs' bt_abs (pa_cons (pv 0) pa_nil)) pe_int))
      (pss_cons (ps_set (i := 3) scMby.nd rfl (Or.inl rfl) (pe_op op_add pe_int (pe_op op_mod (pv 2) (pv 1))))
      (pss_cons (ps_set (i := 2) scMby.nd rfl (Or.inl rfl) (pe_op op_fdivB (pv 2) (pv 1)))
      (pss_cons (ps_set (i := 4) scMby.nd rfl (Or.inl rfl) pe_dnewK)
      (pss_cons (ps_for PassesOwn.never rfl (pi_range1 rfl T.range (pa_cons (pv 3) pa_nil)) (pg_name (i := 5) scMby.nd rfl (Or.inl rfl))
        (pss_cons (ps_dput (hu_of hr) (pv 4) (pe_op op_add pe_int (pe_op op_mod (pv 2) pe_int)) pe_bl rfl)
        (pss_one (ps_set (i := 2) scMby.nd rfl (Or.inl rfl) (pe_op op_fdivB (pv 2) pe_int)))))
      (pss_one (ps_ret (pe_callB (call_sortDI rfl) rfl T.sorted' boot_sorted (pa_cons (pv 4) pa_nil))))))))), ?_⟩
    refine ⟨_, rfl, n, rfl, _, _, rfl, rfl, ⟨(by show (0 : Int) < 2; decide), b9⟩, ?_⟩
    dsimp only [gName]
    generalize (if n < 0 then -n else n) / 2 = c
    obtain ⟨m6, e6, h6⟩ := natOf (i := c) (m := 3) (by decide)
    refine ⟨_, rfl, _, rfl, _, _, rfl, rfl, (by show (0 : Int) < 3; decide), _, _, rfl, rfl, _, rfl, _, rfl, _, _, rfl, rfl, ⟨(by show (0 : Int) < 3; decide), b9⟩, fun d hd => ?_⟩
    have s1 : Same H (upd H d (.dK [])) := Same.upd hd
    refine ⟨_, rfl, ((m6 + 1 : Nat) : Int), (by show [V.int (1 + c % 3)] = _; rw [show 1 + c % 3 = ((m6 + 1 : Nat) : Int) by omega]), by omega, by omega, ?_⟩
    rw [Int.toNat_natCast]
    refine for_range (fun i σ H' => ∃ (kvs : List (Key × V)) (ns : List Int) (l : Int) (v3 v5 : Option V), σ = [some (.int n), some (.int 3), some (.int l), v3, some (.ref d), v5] ∧ Same H H' ∧ H' d = some (.dK kvs) ∧ kvs.map (·.1) = ns.map Sum.inl ∧ ns.length ≤ i ∧ (1 ≤ i → 1 ≤ ns.length) ∧ (∀ m ∈ ns, 1 ≤ m ∧ m ≤ 1000) ∧ ns.Nodup)
      ⟨[], [], _, _, none, rfl, s1, upd_same, rfl, Nat.le_refl _, (fun h => absurd h (by decide)), by simp, List.nodup_nil⟩ ?_ ?_
    · rintro i σ H2 hi ⟨kvs, ns, l, v3, v5, rfl, s2, hd2, hk, nl, n1, nb, nd⟩
      have kl : kvs.length = ns.length := by
        have := congrArg List.length hk
        rwa [List.length_map, List.length_map] at this
      have i1 := emod_in l (show (0 : Int) < 1000 by decide)
      obtain ⟨ns', hk', nm', nl', n1', nd'⟩ := put_keys (c := 1 + l % 1000) (v := V.bl true) hk
      refine ⟨_, rfl, _, rfl, _, _, rfl, rfl, (by show (0 : Int) < 1000; decide), _, _, rfl, rfl, d, _, rfl, DPut.k (k := Sum.inl (1 + l % 1000)) hd2 (small1000 (by omega)), ?_⟩
      refine ⟨_, rfl, _, _, rfl, rfl, ⟨(by show (0 : Int) < 1000; decide), b9⟩, ?_⟩
      refine ⟨_, ns', _, _, _, rfl, fun b o hb => ?_, upd_same, hk', by omega, (fun _ => n1'), fun m hm => ?_, nd' nd⟩
      · rw [upd_ne (ne_of_none hb hd)]
        exact s2 _ _ hb
      · rcases nm' m hm with hm | rfl
        · exact nb m hm
        · omega
    · rintro σ H2 ⟨kvs, ns, l, v3, v5, rfl, s2, hd2, hk, nl, n1, nb, nd⟩
      have kl : kvs.length = ns.length := by
        have := congrArg List.length hk
        rwa [List.length_map, List.length_map] at this
      refine ⟨_, rfl, d, kvs, ns, rfl, hd2, hk, by omega, fun p ns' perm so hp => k p ns' _ (s2.trans (Same.upd hp)) upd_same ⟨by rw [perm.length_eq]; exact n1 (by omega), by rw [perm.length_eq]; omega, fun m hm => nb m (perm.mem_iff.mp hm), (so.and (perm.nodup_iff.mpr nd)).imp fun ⟨h1, h2⟩ => by omega⟩⟩
theorem scMeas : FnScope ["_law_cell", "_law_many", "_law_found", "_law_k"] ["_law_cell"] (defScope sMeas) := ⟨rfl, rfl, rfl, by decide +kernel, rfl, by decide +kernel, by decide +kernel⟩
theorem ok_meas {f : Addr} {fd : FuncData} (F' : Fun K "_law_measures" "_law_measures" sMeas f fd) (T : Txt mg) : FnOk P w K mg base CX0 1 f fd ["_law_cell"] spMeas := by
  refine F'.ok scMeas (fun vs H Q E h => ?_) (fun cdv A outer s H vs Q E hr h => ?_)
  · obtain ⟨_, rfl, _⟩ := h
    rfl
  · obtain ⟨n, rfl, k⟩ := h
    refine ⟨_, (pss_cons (ps_set (i := 1) scMeas.nd rfl (Or.inl rfl) (pe_op op_add pe_int (pe_op op_mod (pv 0) pe_int)))
      (pss_cons (ps_set (i := 2) scMeas.nd rfl (Or.inl rfl) (pe_lst (pa_cons (pe_op op_add pe_int (pe_op op_mod (pe_op op_fdivB (pv 0) pe_int) pe_int)) pa_nil)))
      (pss_cons (ps_for PassesOwn.never rfl (pi_range2 rfl T.range (pa_cons pe_int (pa_cons (pv 1) pa_nil))) (pg_name (i := 3) scMeas.nd rfl (Or.inl rfl))
        (pss_one (ps_expr (pe_bm PySem.F.plainAttrs_list PySem.F.slot_list_append PySem.F.type_list_append mt_append (pv 2) (pa_cons (pe_op op_add (pe_op op_add (pe_ix ix_list (pv 2) (pe_un un_neg pe_int) (fun _ _ => rfl)) pe_int) (pe_op op_mod (pe_op op_fdivB (pv 0) (pe_op op_mulB pe_int (pv 3))) pe_int)) pa_nil)))))
      (pss_one (ps_ret (pv 2)))))), ?_⟩
    obtain ⟨c0, c1⟩ := emod_in (n / 3) (show (0 : Int) < 4 by decide)
    obtain ⟨r0, er, hr3⟩ := natOf (i := n) (m := 3) (by decide)
    refine ⟨_, rfl, _, _, rfl, rfl, (by show (0 : Int) < 3; decide), _, _, rfl, rfl, ?_⟩
    refine ⟨_, rfl, _, _, rfl, rfl, ⟨by decide, b9⟩, _, _, rfl, rfl, (by show (0 : Int) < 4; decide), _, _, rfl, rfl, (by show 1 ≤ sizeLine; decide), fun l hl => ?_⟩
    dsimp only [gName]
    rw [er]
    refine ⟨_, rfl, _, _, rfl, ⟨by decide, by decide, by omega, by omega⟩, ?_⟩
    rw [show ((1 : Int) + ((r0 : Nat) : Int) - 1).toNat = r0 by omega]
    refine for_rangeN (fun i σ H' => ∃ (ms : List Int) (z : Int) (v3 : Option V), σ = [some (.int n), some (.int (1 + ((r0 : Nat) : Int))), some (.ref l), v3] ∧ Same H H' ∧ H' l = some (.lst ((ms ++ [z]).map V.int)) ∧ ms.length = i ∧ (∀ m ∈ ms, 1 ≤ m ∧ m < z) ∧ 1 ≤ z ∧ z ≤ 4 + 3 * (i : Nat) ∧ ms.Pairwise (· < ·)) ⟨[], _, none, rfl, Same.upd hl, upd_same, rfl, (fun m hm => nomatch hm), by omega, by omega, List.Pairwise.nil⟩ ?_ ?_
    · rintro i σ H2 D' hN hi ⟨ms, z, v3, rfl, s2, hl2, ml, mz, z1, zb, pw⟩
      obtain ⟨e0, e1⟩ := emod_in (n / (12 * (1 + ((i : Nat) : Int)))) (show (0 : Int) < 3 by decide)
      have i3 : i < 2 := by omega
      refine ⟨_, rfl, .inl ⟨rfl, _, SqL.of hl2⟩, _, rfl, _, rfl, l, _, _, .int z, rfl, rfl, SqL.of hl2, (by rw [List.map_append]; exact atI_last _ _), _, _, rfl, rfl, _, rfl, _, rfl, _, _, rfl, rfl, ⟨(b9 (c := 12)).mono (by decide), (b9 (by omega) (by omega)).mono (by decide)⟩, _, _, rfl, rfl, ⟨by omega, b9 (by omega) (by omega)⟩, _, _, rfl, rfl, (by show (0 : Int) < 3; decide), _, _, rfl, rfl, l, _, _, rfl, rfl, hl2, small1000 (by rw [List.length_map, List.length_append]; show ms.length + 1 ≤ _; omega), ?_⟩
      refine hN _ _ ⟨ms ++ [z], z + 1 + n / (12 * (1 + ((i : Nat) : Int))) % 3, _, rfl, fun b o e => ?_, ?_, by rw [List.length_append, ml]; rfl, fun m hm => ?_, by omega, by omega, ?_⟩
      · rw [upd_ne (ne_of_none e hl)]
        exact s2 _ _ e
      · rw [upd_same, List.map_append (l₁ := ms ++ [z])]
        rfl
      · rcases List.mem_append.mp hm with hm | hm
        · have := mz m hm
          omega
        · rw [List.mem_singleton.mp hm]
          omega
      · refine List.pairwise_append.mpr ⟨pw, List.pairwise_singleton .., fun a ha b hb => ?_⟩
        rw [List.mem_singleton.mp hb]
        exact (mz a ha).2
    · rintro σ H2 ⟨ms, z, v3, rfl, s2, hl2, ml, mz, z1, zb, pw⟩
      refine ⟨_, rfl, k l (ms ++ [z]) H2 s2 hl2 ⟨by rw [List.length_append]; exact Nat.le_add_left .., by rw [List.length_append]; show ms.length + 1 ≤ 3; omega, fun m hm => ?_, ?_⟩⟩
      · rcases List.mem_append.mp hm with hm | hm
        · have := mz m hm
          omega
        · rw [List.mem_singleton.mp hm]
          omega
      · refine List.pairwise_append.mpr ⟨pw, List.pairwise_singleton .., fun a ha b hb => ?_⟩
        rw [List.mem_singleton.mp hb]
        exact (mz a ha).2
end
end K64

/-! a spread and the layers of all ways: the first layer with a sought node, and the nodes of all layers -/
namespace BE
open PySem PySem.Spec PyProof.Rows L2 BF
def lay (B : Pr) (k0 : NKey) : Nat → List NKey
  | 0 => [k0]
  | n + 1 => (lay B k0 n).flatMap fun k => (B.E k).map (·.2)
theorem lay_next {B : Pr} {k0 k : NKey} {n : Nat} {x : Dd × NKey} (h : k ∈ lay B k0 n) (hx : x ∈ B.E k) : x.2 ∈ lay B k0 (n + 1) := List.mem_flatMap.mpr ⟨k, h, List.mem_map.mpr ⟨x, hx, rfl⟩⟩
theorem lay_prev {B : Pr} {k0 k : NKey} {n : Nat} (h : k ∈ lay B k0 (n + 1)) : ∃ k' x, k' ∈ lay B k0 n ∧ x ∈ B.E k' ∧ x.2 = k := by
  obtain ⟨k', h1, h2⟩ := List.mem_flatMap.mp h
  obtain ⟨x, h3, h4⟩ := List.mem_map.mp h2
  exact ⟨k', x, h1, h3, h4⟩
/-- the rows while the steps of the row at p are gone through: done are those gone through -/
structure IN (B : Pr) (k0 : NKey) (p : Nat) (r : Rx) (rows : List Rx) (done : List (Dd × NKey)) : Prop where
  a : ∀ s ∈ rows, s.1 ∈ lay B k0 s.2.1
  mono : ∀ (i j : Nat) (s t : Rx), i ≤ j → rows[i]? = some s → rows[j]? = some t → s.2.1 ≤ t.2.1
  d : ∀ (j : Nat) (s : Rx), j < p → rows[j]? = some s → ∀ x ∈ B.E s.1, ∃ t ∈ rows, t.1 = x.2 ∧ t.2.1 ≤ s.2.1 + 1
  e : ∀ s ∈ rows, B.goal s.1 = false
  z : ∃ s ∈ rows, s.1 = k0 ∧ s.2.1 = 0
  dp : ∀ s ∈ rows, s.2.1 ≤ B.deep
  nd : (rows.map (·.1)).Nodup
  pr : rows[p]? = some r
  f : ∀ s ∈ rows, s.2.1 ≤ r.2.1 + 1
  dn : ∀ x ∈ done, ∃ t ∈ rows, t.1 = x.2 ∧ t.2.1 ≤ r.2.1 + 1
section
variable {B : Pr} {k0 : NKey} {p : Nat} {r : Rx} {rows : List Rx} {done : List (Dd × NKey)} {x : Dd × NKey}
theorem IN.old (h : IN B k0 p r rows done) (o : (rows.any fun s => decide (s.1 = x.2)) = true) : IN B k0 p r rows (done ++ [x]) := by
  refine ⟨h.a, h.mono, h.d, h.e, h.z, h.dp, h.nd, h.pr, h.f, fun y hy => ?_⟩
  rcases List.mem_append.mp hy with hy | hy
  · exact h.dn y hy
  · rw [List.mem_singleton.mp hy]
    obtain ⟨s, hs, e⟩ := List.any_eq_true.mp o
    exact ⟨s, hs, of_decide_eq_true e, h.f s hs⟩
theorem IN.new (h : IN B k0 p r rows done) (o : (rows.any fun s => decide (s.1 = x.2)) = false) (hx : x ∈ B.E r.1) (g : B.goal x.2 = false) (dd : r.2.1 < B.deep) (par : Option Nat) (q : Option Dd) : IN B k0 p r (rows ++ [(x.2, r.2.1 + 1, par, q)]) (done ++ [x]) := by
  have rm : r ∈ rows := List.mem_of_getElem? h.pr
  have all : ∀ {P : Rx → Prop}, (∀ s ∈ rows, P s) → P (x.2, r.2.1 + 1, par, q) → ∀ s ∈ rows ++ [(x.2, r.2.1 + 1, par, q)], P s := fun h1 h2 s hs => by
    rcases List.mem_append.mp hs with hs | hs
    · exact h1 s hs
    · rw [List.mem_singleton.mp hs]; exact h2
  have more : ∀ {y : Dd × NKey} {b : Nat}, (∃ t ∈ rows, t.1 = y.2 ∧ t.2.1 ≤ b) → ∃ t ∈ rows ++ [(x.2, r.2.1 + 1, par, q)], t.1 = y.2 ∧ t.2.1 ≤ b := fun ⟨t, h1, h2⟩ => ⟨t, List.mem_append_left _ h1, h2⟩
  have pl := (List.getElem?_eq_some_iff.mp h.pr).1
  refine ⟨all h.a (lay_next (h.a r rm) hx), fun i j s t ij hs ht => ?_, fun j s jp hs y hy => ?_, all h.e g, ?_, all h.dp dd, ?_, ?_, all h.f (Nat.le_refl _), fun y hy => ?_⟩
  · by_cases jl : j < rows.length
    · rw [List.getElem?_append_left jl] at ht
      rw [List.getElem?_append_left (by omega)] at hs
      exact h.mono i j s t ij hs ht
    · have jl2 := (List.getElem?_eq_some_iff.mp ht).1
      rw [List.length_append] at jl2
      have jl2 : j < rows.length + 1 := jl2
      have je : j = rows.length := by omega
      subst je
      rw [List.getElem?_concat_length] at ht
      cases ht
      by_cases il : i < rows.length
      · rw [List.getElem?_append_left il] at hs
        exact h.f s (List.mem_of_getElem? hs)
      · have ie : i = rows.length := by omega
        subst ie
        rw [List.getElem?_concat_length] at hs
        cases hs
        exact Nat.le_refl _
  · rw [List.getElem?_append_left (by omega)] at hs
    exact more (h.d j s jp hs y hy)
  · obtain ⟨s, h1, h2⟩ := h.z
    exact ⟨s, List.mem_append_left _ h1, h2⟩
  · rw [List.map_append]
    refine List.nodup_append.mpr ⟨h.nd, List.pairwise_singleton .., fun a ha b hb => ?_⟩
    rw [List.mem_singleton.mp hb]
    obtain ⟨s, hs, rfl⟩ := List.mem_map.mp ha
    intro z
    have := List.any_eq_false.mp o s hs
    exact this (decide_eq_true z)
  · rw [List.getElem?_append_left pl]
    exact h.pr
  · rcases List.mem_append.mp hy with hy | hy
    · exact more (h.dn y hy)
    · rw [List.mem_singleton.mp hy]
      exact ⟨_, List.mem_append_right _ (List.mem_singleton.mpr rfl), rfl, Nat.le_refl _⟩
end
/-- what an inner loop leaves -/
def PoI (B : Pr) (k0 : NKey) (p : Nat) (r : Rx) (all : List (Dd × NKey)) : List Rx ⊕ Rz → Prop
  | .inl rows => IN B k0 p r rows all
  | .inr .many => ∃ (rows : List Rx) (done : List (Dd × NKey)) (x : Dd × NKey), IN B k0 p r rows done ∧ B.most ≤ rows.length ∧ x ∈ B.E r.1 ∧ (rows.any fun s => decide (s.1 = x.2)) = false
  | .inr (.found rows) => ∃ (rs : List Rx) (done : List (Dd × NKey)) (x : Dd × NKey), rows = rs ++ [(x.2, r.2.1 + 1, some p, some x.1)] ∧ IN B k0 p r rs done ∧ x ∈ B.E r.1 ∧ B.goal x.2 = true
  | .inr (.none _) => False
theorem inner_in {B : Pr} {k0 : NKey} {p : Nat} {r : Rx} (dd : r.2.1 < B.deep) : ∀ (es : List (Dd × NKey)) (rows : List Rx) (done : List (Dd × NKey)), IN B k0 p r rows done → (∀ x ∈ es, x ∈ B.E r.1) → PoI B k0 p r (done ++ es) (inner B p r.2.1 rows es)
  | [], rows, done, h, _ => by rw [List.append_nil]; exact h
  | x :: es, rows, done, h, hx => by
    have h1 := hx x (List.mem_cons_self ..)
    have h2 : ∀ y ∈ es, y ∈ B.E r.1 := fun y hy => hx y (List.mem_cons_of_mem _ hy)
    have ea : done ++ x :: es = (done ++ [x]) ++ es := by rw [List.append_assoc]; rfl
    rw [inner_cons, ea]
    cases o : rows.any fun s => decide (s.1 = x.2) with
    | true =>
      rw [if_pos rfl]
      exact inner_in dd es rows _ (h.old o) h2
    | false =>
      rw [if_neg (by decide)]
      by_cases mm : B.most ≤ rows.length
      · rw [if_pos mm]
        exact ⟨rows, done, x, h, mm, h1, o⟩
      · rw [if_neg mm]
        cases g : B.goal x.2 with
        | true =>
          rw [if_pos rfl]
          exact ⟨rows, done, x, rfl, h, h1, g⟩
        | false =>
          rw [if_neg (by decide)]
          exact inner_in dd es _ _ (h.new o h1 g dd (some p) (some x.1)) h2
/-- the rows when it is the turn of the row at p -/
structure BI (B : Pr) (k0 : NKey) (p : Nat) (rows : List Rx) : Prop where
  a : ∀ s ∈ rows, s.1 ∈ lay B k0 s.2.1
  mono : ∀ (i j : Nat) (s t : Rx), i ≤ j → rows[i]? = some s → rows[j]? = some t → s.2.1 ≤ t.2.1
  d : ∀ (j : Nat) (s : Rx), j < p → rows[j]? = some s → ∀ x ∈ B.E s.1, ∃ t ∈ rows, t.1 = x.2 ∧ t.2.1 ≤ s.2.1 + 1
  e : ∀ s ∈ rows, B.goal s.1 = false
  z : ∃ s ∈ rows, s.1 = k0 ∧ s.2.1 = 0
  dp : ∀ s ∈ rows, s.2.1 ≤ B.deep
  nd : (rows.map (·.1)).Nodup
  f : ∀ r : Rx, rows[p]? = some r → ∀ s ∈ rows, s.2.1 ≤ r.2.1 + 1
theorem BI.start {B : Pr} {k0 : NKey} {p : Nat} {r : Rx} {rows : List Rx} (h : BI B k0 p rows) (pr : rows[p]? = some r) : IN B k0 p r rows [] := ⟨h.a, h.mono, h.d, h.e, h.z, h.dp, h.nd, pr, h.f r pr, fun x hx => nomatch hx⟩
theorem IN.next {B : Pr} {k0 : NKey} {p : Nat} {r : Rx} {rows : List Rx} (h : IN B k0 p r rows (B.E r.1)) : BI B k0 (p + 1) rows := by
  refine ⟨h.a, h.mono, fun j s jp hs x hx => ?_, h.e, h.z, h.dp, h.nd, fun t ht s hs => ?_⟩
  · by_cases je : j = p
    · subst je
      rw [h.pr] at hs
      cases hs
      exact h.dn x hx
    · exact h.d j s (by omega) hs x hx
  · have := h.mono p (p + 1) r t (by omega) h.pr ht
    have := h.f s hs
    omega
/-- the layers as far as n are rows, if all rows of less depth are done with -/
theorem lay_rows {B : Pr} {k0 : NKey} {rows : List Rx} (n : Nat) (z : ∃ s ∈ rows, s.1 = k0 ∧ s.2.1 = 0) (d : ∀ s ∈ rows, s.2.1 < n → ∀ x ∈ B.E s.1, ∃ t ∈ rows, t.1 = x.2 ∧ t.2.1 ≤ s.2.1 + 1) : ∀ i, i ≤ n → ∀ k ∈ lay B k0 i, ∃ s ∈ rows, s.1 = k ∧ s.2.1 ≤ i
  | 0, _, k, hk => by
    obtain ⟨s, h1, h2, h3⟩ := z
    rw [List.mem_singleton.mp hk]
    exact ⟨s, h1, h2, by omega⟩
  | i + 1, hi, k, hk => by
    obtain ⟨k', x, h1, h2, rfl⟩ := lay_prev hk
    obtain ⟨s, h3, h4, h5⟩ := lay_rows n z d i (by omega) k' h1
    obtain ⟨t, h6, h7, h8⟩ := d s h3 (by omega) x (by rw [h4]; exact h2)
    exact ⟨t, h6, h7, by omega⟩
/-- what a spread tells -/
def PoB (B : Pr) (k0 : NKey) : Rz → Prop
  | .found rows => ∃ rs s d, rows = rs ++ [s] ∧ s.2.1 = d ∧ d ≤ B.deep ∧ s.1 ∈ lay B k0 d ∧ B.goal s.1 = true ∧ ∀ i, i < d → ∀ k ∈ lay B k0 i, B.goal k = false
  | .none rows => (∀ s ∈ rows, s.2.1 ≤ B.deep ∧ s.1 ∈ lay B k0 s.2.1) ∧ (∀ i, i ≤ B.deep → ∀ k ∈ lay B k0 i, ∃ s ∈ rows, s.1 = k) ∧ (∀ s ∈ rows, B.goal s.1 = false) ∧ (rows.map (·.1)).Nodup
  | .many => ∃ rows : List Rx, B.most ≤ rows.length ∧ (rows.map (·.1)).Nodup ∧ ∀ s ∈ rows, s.2.1 ≤ B.deep ∧ s.1 ∈ lay B k0 s.2.1
theorem BI.fin {B : Pr} {k0 : NKey} {p : Nat} {rows : List Rx} (h : BI B k0 p rows) (e : ∀ r, rows[p]? = some r → ¬ r.2.1 < B.deep) : PoB B k0 (.none rows) := by
  refine ⟨fun s hs => ⟨h.dp s hs, h.a s hs⟩, fun i hi k hk => ?_, h.e, h.nd⟩
  obtain ⟨s, h1, h2, _⟩ := lay_rows B.deep h.z (fun s hs sd x hx => by
    obtain ⟨j, hj, ej⟩ := List.mem_iff_getElem.mp hs
    have ej' : rows[j]? = some s := by rw [List.getElem?_eq_getElem hj, ej]
    refine h.d j s ?_ ej' x hx
    rcases Nat.lt_or_ge j p with q | q
    · exact q
    · exfalso
      obtain ⟨r, hr⟩ : ∃ r, rows[p]? = some r := ⟨_, List.getElem?_eq_getElem (by omega)⟩
      have := h.mono p j r s q hr ej'
      exact e r hr (by omega)) i hi k hk
  exact ⟨s, h1, h2⟩
def LenOk (B : Pr) : List Rx ⊕ Rz → Prop
  | .inl rs => rs.length ≤ B.most
  | .inr _ => True
theorem inner_len {B : Pr} {p d : Nat} : ∀ (es : List (Dd × NKey)) (rows : List Rx), rows.length ≤ B.most → LenOk B (inner B p d rows es)
  | [], rows, h => h
  | x :: es, rows, h => by
    rw [inner_cons]
    split
    · exact inner_len es rows h
    · split
      · trivial
      · split
        · trivial
        · exact inner_len es _ (by rw [List.length_append]; show rows.length + 1 ≤ _; omega)
theorem outer_po {B : Pr} {k0 : NKey} : ∀ (n : Nat) (rows : List Rx) (p : Nat), BI B k0 p rows → rows.length ≤ B.most → B.most + 1 ≤ n + p → PoB B k0 (outer B n rows p)
  | 0, rows, p, h, l, np => h.fin fun r hr => by
    have := (List.getElem?_eq_some_iff.mp hr).1
    omega
  | n + 1, rows, p, h, l, np => by
    by_cases pl : p < rows.length
    · obtain ⟨r, hr⟩ : ∃ r, rows[p]? = some r := ⟨_, List.getElem?_eq_getElem pl⟩
      rw [outer_at hr]
      by_cases dd : r.2.1 < B.deep
      · rw [if_pos dd]
        have q := inner_in dd (B.E r.1) rows [] (h.start hr) fun _ hx => hx
        rw [List.nil_append] at q
        have ql := inner_len (B := B) (p := p) (d := r.2.1) (B.E r.1) rows l
        revert q ql
        cases inner B p r.2.1 rows (B.E r.1) with
        | inl rs => exact fun q ql => outer_po n rs (p + 1) q.next ql (by omega)
        | inr x =>
          cases x with
          | none rs => exact fun q _ => q.elim
          | many =>
            intro q _
            obtain ⟨rs, done, x, h1, h2, _⟩ := q
            exact ⟨rs, h2, h1.nd, fun s hs => ⟨h1.dp s hs, h1.a s hs⟩⟩
          | found rs =>
            intro q _
            obtain ⟨rs', done, x, rfl, h1, h2, h3⟩ := q
            have rm : r ∈ rs' := List.mem_of_getElem? h1.pr
            refine ⟨rs', _, _, rfl, rfl, dd, lay_next (h1.a r rm) h2, h3, fun i hi k hk => ?_⟩
            obtain ⟨s, g1, g2, _⟩ := lay_rows r.2.1 h1.z (fun s hs sd y hy => by
              obtain ⟨j, hj, ej⟩ := List.mem_iff_getElem.mp hs
              have ej' : rs'[j]? = some s := by rw [List.getElem?_eq_getElem hj, ej]
              refine h1.d j s ?_ ej' y hy
              rcases Nat.lt_or_ge j p with z | z
              · exact z
              · exfalso
                have := h1.mono p j r s z h1.pr ej'
                omega) i (by have hi : i < r.2.1 + 1 := hi; omega) k hk
            rw [← g2]
            exact h1.e s g1
      · rw [if_neg dd]
        exact h.fin fun r' hr' => by rw [hr] at hr'; cases hr'; exact dd
    · rw [outer_end (by omega)]
      exact h.fin fun r hr => by
        have := (List.getElem?_eq_some_iff.mp hr).1
        omega
theorem bfs_po {B : Pr} {k0 : NKey} (m1 : 1 ≤ B.most) : PoB B k0 (bfs B k0) := by
  unfold bfs
  cases g : B.goal k0 with
  | true =>
    rw [if_pos rfl]
    exact ⟨[], _, 0, rfl, rfl, Nat.zero_le _, List.mem_singleton.mpr rfl, g, fun i hi => absurd hi (Nat.not_lt_zero i)⟩
  | false =>
    rw [if_neg (by decide)]
    have one : ∀ {P : Rx → Prop}, P (k0, 0, none, none) → ∀ s ∈ [((k0, 0, none, none) : Rx)], P s := fun h s hs => by rw [List.mem_singleton.mp hs]; exact h
    refine outer_po _ _ 0 ⟨one (List.mem_singleton.mpr rfl), fun i j s t _ hs ht => ?_, (fun j s jp => absurd jp (Nat.not_lt_zero j)), one g, ⟨_, List.mem_singleton.mpr rfl, rfl, rfl⟩, one (Nat.zero_le _), List.pairwise_singleton .., fun r hr s hs => ?_⟩ m1 (by omega)
    · have := List.mem_of_getElem? hs
      rw [List.mem_singleton.mp this]
      exact Nat.zero_le _
    · rw [List.mem_singleton.mp hs]
      exact Nat.zero_le _
end BE

/-! the way back along a spread's rows -/
namespace BE
open PySem PySem.Spec PyProof.Rows L2 BF
/-- a row's place of origin lies ahead of it, one step less deep -/
def Par (rows : List Rx) (i : Nat) (s : Rx) : Prop := (s.2.2.1 = none ∧ s.2.1 = 0) ∨ ∃ (j : Nat) (t : Rx) (q : Dd), s.2.2.1 = some j ∧ j < i ∧ rows[j]? = some t ∧ s.2.1 = t.2.1 + 1 ∧ s.2.2.2 = some q
def ParOk (rows : List Rx) : Prop := ∀ (i : Nat) (s : Rx), rows[i]? = some s → Par rows i s
def PaI (p : Nat) (r : Rx) : List Rx ⊕ Rz → Prop
  | .inl rows => ParOk rows ∧ rows[p]? = some r
  | .inr (.found rows) => ParOk rows
  | .inr (.none rows) => ParOk rows
  | .inr .many => True
def PaB : Rz → Prop
  | .found rows => ParOk rows
  | .none rows => ParOk rows
  | .many => True
/-- the layers' sizes -/
theorem lay_len {B : Pr} {k0 : NKey} {c : Nat} (ok : Nat → NKey → Prop) (h0 : ok 0 k0) (ed : ∀ d k, ok d k → d < B.deep → ∀ x ∈ B.E k, ok (d + 1) x.2) (le : ∀ d k, ok d k → (B.E k).length ≤ c) : ∀ n, n ≤ B.deep → (lay B k0 n).length ≤ c ^ n ∧ ∀ k ∈ lay B k0 n, ok n k
  | 0, _ => ⟨Nat.le_refl _, fun k hk => by rw [List.mem_singleton.mp hk]; exact h0⟩
  | n + 1, hn => by
    obtain ⟨h1, h2⟩ := lay_len ok h0 ed le n (by omega)
    refine ⟨?_, fun k hk => ?_⟩
    · have : ∀ l : List NKey, (∀ k ∈ l, ok n k) → (l.flatMap fun k => (B.E k).map (·.2)).length ≤ l.length * c := fun l hl => by
        induction l with
        | nil => exact Nat.zero_le _
        | cons k l ih =>
          rw [List.flatMap_cons, List.length_append, List.length_map, List.length_cons, Nat.succ_mul]
          have := le n k (hl k (List.mem_cons_self ..))
          have := ih fun k hk => hl k (List.mem_cons_of_mem _ hk)
          omega
      refine Nat.le_trans (this _ h2) ?_
      rw [Nat.pow_succ]
      exact Nat.mul_le_mul_right _ h1
    · obtain ⟨k', x, q1, q2, rfl⟩ := lay_prev hk
      exact ed n k' (h2 k' q1) (by omega) x q2
end BE

/-! sorted lists with the same members; fractions by whole keys -/
namespace BE
/-- of two fractions with bottoms of at most g the smaller has the smaller key -/
theorem key_lt {a b c d g : Int} (b1 : 1 ≤ b) (d1 : 1 ≤ d) (bg : b ≤ g) (dg : d ≤ g) (h : a * d < c * b) : a * (g * g) / b < c * (g * g) / d := by
  have hb : b * d ≤ g * g := Int.mul_le_mul bg dg (by omega) (by omega)
  have s0 : 0 ≤ g * g := Int.mul_nonneg (by omega) (by omega)
  have q := Int.ediv_mul_le (a * (g * g)) (show b ≠ 0 by omega)
  generalize a * (g * g) / b = qa at *
  have e1 : (qa * b) * d ≤ (a * (g * g)) * d := Int.mul_le_mul_of_nonneg_right q (by omega)
  have e2 : (a * d + 1) * (g * g) ≤ (c * b) * (g * g) := Int.mul_le_mul_of_nonneg_right h s0
  have r1 : (qa + 1) * d * b = qa * b * d + b * d := by grind
  have r2 : (a * d + 1) * (g * g) = a * (g * g) * d + g * g := by grind
  have r3 : c * (g * g) * b = c * b * (g * g) := by grind
  have main : (qa + 1) * d * b ≤ c * (g * g) * b := by
    rw [r1, r3]
    rw [r2] at e2
    omega
  have : (qa + 1) * d ≤ c * (g * g) := Int.le_of_mul_le_mul_right main (by omega)
  have := (Int.le_ediv_iff_mul_le (show 0 < d by omega)).mpr this
  omega
/-- fractions in order -/
def Lf (x y : Int × Int) : Prop := x.1 * y.2 < y.1 * x.2
end BE

/-! a fraction put into a rising list of fractions -/
namespace BE
open GM
theorem Lf.tri {x y : Int × Int} (hx : Amt x.1 x.2) (hy : Amt y.1 y.2) (h : ¬ Lf x y) (n : x ≠ y) : Lf y x := by
  unfold Lf at *
  rcases Int.lt_trichotomy (x.1 * y.2) (y.1 * x.2) with c | c | c
  · exact absurd c h
  · obtain ⟨e1, e2⟩ := amt_unique hx hy c
    exact absurd (Prod.ext e1 e2) n
  · exact c
end BE

/-! where the layers are small there are never too many rows -/
namespace BE
open PySem PySem.Spec PyProof.Rows L2 BF
theorem nodup_len {α : Type} [DecidableEq α] : ∀ (xs ys : List α), xs.Nodup → (∀ x ∈ xs, x ∈ ys) → xs.length ≤ ys.length
  | [], _, _, _ => Nat.zero_le _
  | x :: xs, ys, n, h => by
    obtain ⟨n1, n2⟩ := List.nodup_cons.mp n
    have hx := h x (List.mem_cons_self ..)
    have q := nodup_len xs (ys.erase x) n2 fun y hy => (List.mem_erase_of_ne (a := y) (b := x) (fun e => n1 (by rw [← e]; exact hy))).mpr (h y (List.mem_cons_of_mem _ hy))
    rw [List.length_erase_of_mem hx] at q
    have := List.length_pos_of_mem hx
    rw [List.length_cons]
    omega
/-- all nodes as far as a layer -/
def upto (B : Pr) (k0 : NKey) : Nat → List NKey
  | 0 => lay B k0 0
  | n + 1 => upto B k0 n ++ lay B k0 (n + 1)
theorem mem_upto {B : Pr} {k0 k : NKey} {i : Nat} (h : k ∈ lay B k0 i) : ∀ n, i ≤ n → k ∈ upto B k0 n
  | 0, e => by
    have : i = 0 := by omega
    subst this
    exact h
  | n + 1, e => by
    by_cases c : i = n + 1
    · subst c
      exact List.mem_append_right _ h
    · exact List.mem_append_left _ (mem_upto h n (by omega))
end BE

/-! the way along a spread's rows, deed by deed; how many rows there are at most -/
namespace BE
open PySem PySem.Spec PyProof.Rows L2 BF
def Pae (B : Pr) (k0 : NKey) (rows : List Rx) (i : Nat) (s : Rx) : Prop := (s.2.2.1 = none ∧ s.2.1 = 0 ∧ s.1 = k0) ∨ ∃ (j : Nat) (t : Rx) (q : Dd), s.2.2.1 = some j ∧ j < i ∧ rows[j]? = some t ∧ s.2.1 = t.2.1 + 1 ∧ s.2.2.2 = some q ∧ (q, s.1) ∈ B.E t.1
def PaeOk (B : Pr) (k0 : NKey) (rows : List Rx) : Prop := ∀ (i : Nat) (s : Rx), rows[i]? = some s → Pae B k0 rows i s
section
variable {B : Pr} {k0 : NKey}
theorem PaeOk.snoc {rows : List Rx} {p : Nat} {r : Rx} {x : Dd × NKey} (h : PaeOk B k0 rows) (pr : rows[p]? = some r) (hx : x ∈ B.E r.1) : PaeOk B k0 (rows ++ [(x.2, r.2.1 + 1, some p, some x.1)]) := fun i s hs => by
  have pl := (List.getElem?_eq_some_iff.mp pr).1
  by_cases il : i < rows.length
  · rw [List.getElem?_append_left il] at hs
    rcases h i s hs with h | ⟨j, t, q, h1, h2, h3, h4⟩
    · exact .inl h
    · exact .inr ⟨j, t, q, h1, h2, by rw [List.getElem?_append_left (List.getElem?_eq_some_iff.mp h3).1]; exact h3, h4⟩
  · have i2 := (List.getElem?_eq_some_iff.mp hs).1
    rw [List.length_append] at i2
    have i2 : i < rows.length + 1 := i2
    have ie : i = rows.length := by omega
    subst ie
    rw [List.getElem?_concat_length] at hs
    cases hs
    exact .inr ⟨p, r, x.1, rfl, pl, by rw [List.getElem?_append_left pl]; exact pr, rfl, rfl, hx⟩
def PeI (B : Pr) (k0 : NKey) (p : Nat) (r : Rx) : List Rx ⊕ Rz → Prop
  | .inl rows => PaeOk B k0 rows ∧ rows[p]? = some r
  | .inr (.found rows) => PaeOk B k0 rows
  | .inr (.none rows) => PaeOk B k0 rows
  | .inr .many => True
def PeB (B : Pr) (k0 : NKey) : Rz → Prop
  | .found rows => PaeOk B k0 rows
  | .none rows => PaeOk B k0 rows
  | .many => True
theorem inner_pae {p : Nat} {r : Rx} : ∀ (es : List (Dd × NKey)) (rows : List Rx), (∀ x ∈ es, x ∈ B.E r.1) → PaeOk B k0 rows → rows[p]? = some r → PeI B k0 p r (inner B p r.2.1 rows es)
  | [], rows, _, h, pr => ⟨h, pr⟩
  | x :: es, rows, hx, h, pr => by
    have pl := (List.getElem?_eq_some_iff.mp pr).1
    have h1 := hx x (List.mem_cons_self ..)
    have h2 : ∀ y ∈ es, y ∈ B.E r.1 := fun y hy => hx y (List.mem_cons_of_mem _ hy)
    rw [inner_cons]
    split
    · exact inner_pae es rows h2 h pr
    · split
      · trivial
      · split
        · exact h.snoc pr h1
        · exact inner_pae es _ h2 (h.snoc pr h1) (by rw [List.getElem?_append_left pl]; exact pr)
theorem outer_pae : ∀ (n : Nat) (rows : List Rx) (p : Nat), PaeOk B k0 rows → PeB B k0 (outer B n rows p)
  | 0, rows, p, h => h
  | n + 1, rows, p, h => by
    by_cases pl : p < rows.length
    · obtain ⟨r, hr⟩ : ∃ r, rows[p]? = some r := ⟨_, List.getElem?_eq_getElem pl⟩
      rw [outer_at hr]
      by_cases dd : r.2.1 < B.deep
      · rw [if_pos dd]
        have q := inner_pae (B := B) (k0 := k0) (B.E r.1) rows (fun _ h => h) h hr
        revert q
        cases inner B p r.2.1 rows (B.E r.1) with
        | inl rs => exact fun q => outer_pae n rs (p + 1) q.1
        | inr x => cases x <;> exact fun q => q
      · rw [if_neg dd]
        exact h
    · rw [outer_end (by omega)]
      exact h
theorem bfs_pae : PeB B k0 (bfs B k0) := by
  have one : PaeOk B k0 [((k0, 0, none, none) : Rx)] := fun i s hs => by
    rw [List.mem_singleton.mp (List.mem_of_getElem? hs)]
    exact .inl ⟨rfl, rfl, rfl⟩
  unfold bfs
  split
  · exact one
  · exact outer_pae _ _ _ one
end
/-- along deeds -/
inductive Pth (E : NKey → List (Dd × NKey)) : NKey → List Dd → NKey → Prop
  | nil {k : NKey} : Pth E k [] k
  | cons {k k' : NKey} {x : Dd × NKey} {ds : List Dd} : x ∈ E k → Pth E x.2 ds k' → Pth E k (x.1 :: ds) k'
/-- so many nodes in all layers -/
def geo (c : Nat) : Nat → Nat
  | 0 => 1
  | n + 1 => geo c n + c ^ (n + 1)
theorem upto_len {B : Pr} {k0 : NKey} {c d : Nat} (h : ∀ n, n ≤ d → (lay B k0 n).length ≤ c ^ n) : ∀ n, n ≤ d → (upto B k0 n).length ≤ geo c n
  | 0, hn => h 0 hn
  | n + 1, hn => by
    show (upto B k0 n ++ lay B k0 (n + 1)).length ≤ geo c n + c ^ (n + 1)
    rw [List.length_append]
    have h1 := upto_len h n (by omega)
    have h2 := h (n + 1) hn
    omega
theorem not_manyC {B : Pr} {k0 : NKey} {ok : Nat → NKey → Prop} {c : Nat} (h0 : ok 0 k0) (ed : ∀ d k, ok d k → d < B.deep → ∀ x ∈ B.E k, ok (d + 1) x.2) (le : ∀ d k, ok d k → (B.E k).length ≤ c) (m1 : 1 ≤ B.most) (hm : geo c B.deep < B.most) : bfs B k0 ≠ .many := fun e => by
  have q := bfs_po (B := B) (k0 := k0) m1
  rw [e] at q
  obtain ⟨rows, h1, h2, h3⟩ := q
  have q := nodup_len _ (upto B k0 B.deep) h2 fun k hk => by
    obtain ⟨s, hs, rfl⟩ := List.mem_map.mp hk
    exact mem_upto (h3 s hs).2 _ (h3 s hs).1
  rw [List.length_map] at q
  have l := lay_len ok h0 ed le
  have u := upto_len (fun n hn => (l n hn).1) B.deep (Nat.le_refl _)
  omega
end BE

namespace K64
open PySem PySem.Spec PyProof.Rows L2 GM TM BF BE
/-! ### way_to -/
/-- deeds -/
def Dds (K : PySem.W.Frag) (H : Hp) (ds : List V) (dd : List Dd) : Prop := Paired (fun v x => DV K H v (some x)) ds dd
theorem Dds.keep {K : PySem.W.Frag} {H H' : Hp} {ds : List V} {dd : List Dd} (h : Dds K H ds dd) (t : ∀ b ys, H b = some (.tup ys) → H' b = some (.tup ys)) : Dds K H' ds dd := Paired.mapP h fun _ _ q => q.keep t
theorem paired_rev {α β : Type} {R : α → β → Prop} {l : List α} {m : List β} (h : Paired R l m) : Paired R l.reverse m.reverse := by
  induction h with
  | nil => exact .nil
  | cons h _ ih => rw [List.reverse_cons, List.reverse_cons]; exact Paired.snoc ih h
def spWayTo (K : PySem.W.Frag) : Sp := fun vs H Q _ => ∃ (l : Addr) (i : Nat) (xs : List V) (rows : List Rx) (s : Rx) (B : Pr) (k0 : NKey), vs = [.ref l, .int ((i : Nat) : Int)] ∧ H l = some (.lst xs) ∧ RwX K H xs rows ∧ PaeOk B k0 rows ∧ rows[i]? = some s ∧ rows.length ≤ 2000 ∧ ∀ p ds dd H', Same H H' → H p = none → H' p = some (.lst ds) → dd.length = s.2.1 → Dds K H' ds dd → Pth B.E k0 dd s.1 → Q (.ref p) H'
section
variable {P : Program} {w : World} {K : PySem.W.Frag} {mg : Str → Option Value} {base : Heap}
theorem scWay : FnScope ["rows", "place", "way", "row"] ["rows", "place"] (defScope sWayTo) := ⟨rfl, rfl, rfl, by decide +kernel, rfl, by decide +kernel, by decide +kernel⟩
theorem ok_wayto {f : Addr} {fd : FuncData} (F : Fun K "way_to" "way_to" sWayTo f fd) : FnOk P w K mg base CX0 1 f fd ["rows", "place"] (spWayTo K) := by
  refine F.ok scWay (fun vs H Q E h => ?_) (fun cdv A outer s H vs Q E hr h => ?_)
  · obtain ⟨_, _, _, _, _, _, _, rfl, _⟩ := h
    rfl
  · obtain ⟨a, i, xs, rows, s0, B, k0, rfl, hl, rw0, po, hs0, l2, k⟩ := h
    refine ⟨_, (pss_cons (ps_set (i := 2) scWay.nd rfl (Or.inl rfl) (pe_lst pa_nil))
      (pss_cons (ps_set (i := 3) scWay.nd rfl (Or.inl rfl) (pe_ix ix_list (pv 0) (pv 1) (fun _ _ => rfl)))
      (pss_cons (ps_while PassesOwn.never (pt_cmpR op_notN (pit 3 2) pe_non (nomark _))
        (pss_cons (ps_expr (pe_bm PySem.F.plainAttrs_list PySem.F.slot_list_append PySem.F.type_list_append mt_append (pv 2) (pa_cons (pit 3 3) pa_nil)))
        (pss_one (ps_set (i := 3) scWay.nd rfl (Or.inl rfl) (pe_ix ix_list (pv 0) (pit 3 2) (fun _ _ => rfl))))))
      (pss_cons (ps_expr (pe_bm0 PySem.F.plainAttrs_list PySem.F.slot_list_reverse PySem.F.type_list_reverse mt_reverse (pv 2)))
      (pss_one (ps_ret (pv 2))))))), ?_⟩
    refine ⟨(by show 0 ≤ sizeLine; decide), fun z hz => ?_⟩
    have s1 : Same H (upd H z (.lst [])) := Same.upd hz
    obtain ⟨_, hv0, r0, u0, d0, rfl, h0, _, dv0⟩ := BF.paired_at rw0 hs0
    have il := (List.getElem?_eq_some_iff.mp hs0).1
    refine ⟨_, rfl, _, rfl, a, xs, (i : Int), .ref r0, rfl, rfl, SqL.of (s1 _ _ hl), atI_nat hv0, ?_⟩
    refine while_by (fun σ H' => ∃ (r : Addr) (j : Nat) (t : Rx) (u d : V) (acc : List V) (dd : List Dd), σ = [some (.ref a), some (.int ((i : Nat) : Int)), some (.ref z), some (.ref r)] ∧ Same H H' ∧ H' z = some (.lst acc) ∧ rows[j]? = some t ∧ H r = some (.tup [u, .int ((t.2.1 : Nat) : Int), parV t.2.2.1, d]) ∧ acc.length + t.2.1 = s0.2.1 ∧ acc.length + j ≤ i ∧ DV K H d t.2.2.2 ∧ Dds K H acc dd ∧ Pth B.E t.1 dd.reverse s0.1)
      (fun _ H' => match H' z with | some (.lst acc) => 3000 - acc.length | _ => 0) ⟨r0, i, s0, u0, d0, [], [], rfl, s1, upd_same, hs0, h0, by simp, by simp, dv0, .nil, .nil⟩ ?_ ?_
    · rintro σ H' ⟨r, j, t, u, d, acc, dd, rfl, s2, hz2, hj, hr', al, hl2, dv, dds, pth⟩
      have hr2 : SqT K H' r [u, .int ((t.2.1 : Nat) : Int), parV t.2.2.1, d] := SqT.of (s2 _ _ hr')
      refine ⟨r, _, _, rfl, hr2, rfl, rfl, _, rfl, ?_⟩
      rcases po j t hj with ⟨e1, e2, e2'⟩ | ⟨p, t', q, e1, e2, e3, e4, e5, e6⟩
      · rw [e1]
        refine iteF ?_
        refine ⟨_, rfl, .inl ⟨rfl, _, SqL.of hz2⟩, z, acc, rfl, rfl, hz2, ?_⟩
        have s3 : Same H (upd H' z (.lst acc.reverse)) := fun b o hb => by
          rw [upd_ne (fun e => by rw [e, hz] at hb; cases hb)]
          exact s2 _ _ hb
        refine ⟨_, rfl, k z _ dd.reverse _ s3 hz upd_same (by rw [List.length_reverse, ← Paired.length dds]; omega) (Dds.keep (paired_rev dds) fun b ys => s3 _ _) (by rw [← e2']; exact pth)⟩
      · rw [e1] at hr2 hr' ⊢
        refine iteT ?_
        obtain ⟨_, hvp, rp, up, dp, rfl, hp, _, dvp⟩ := BF.paired_at rw0 e3
        refine ⟨_, rfl, .inl ⟨rfl, _, SqL.of hz2⟩, r, _, _, rfl, hr2, rfl, z, acc, d, rfl, rfl, hz2, BE.size2001 (by omega), ?_⟩
        have s3 : Same H (upd H' z (.lst (acc ++ [d]))) := fun b o hb => by
          rw [upd_ne (fun e => by rw [e, hz] at hb; cases hb)]
          exact s2 _ _ hb
        refine ⟨_, rfl, r, _, _, rfl, SqT.of (s3 _ _ hr'), rfl, a, xs, (p : Int), .ref rp, rfl, rfl, SqL.of (s3 _ _ hl), atI_nat hvp, ?_⟩
        rw [e5] at dv
        refine ⟨⟨rp, p, t', up, dp, acc ++ [d], dd ++ [q], rfl, s3, upd_same, e3, hp, ?_, ?_, dvp, Paired.snoc dds dv, ?_⟩, ?_⟩
        · rw [List.length_append, List.length_singleton]
          omega
        · rw [List.length_append, List.length_singleton]
          omega
        · rw [List.reverse_append]
          exact Pth.cons (x := (q, t.1)) e6 pth
        · show (match (upd H' z (.lst (acc ++ [d]))) z with | some (.lst acc) => 3000 - acc.length | _ => 0) < (match H' z with | some (.lst acc) => 3000 - acc.length | _ => 0)
          rw [upd_same, hz2]
          show 3000 - (acc ++ [d]).length < 3000 - acc.length
          rw [List.length_append, List.length_singleton]
          omega
    · rintro σ H' Q1 Q2 hq ⟨p, ys, v, e1, e2, e3, e4, b, e5, q⟩
      exact ⟨p, ys, v, e1, e2, e3, e4, b, e5, hq _ _ q⟩
end
end K64

namespace K64
open PySem PySem.Spec PyProof.Rows L2 GM TM BF BE
/-! ### mixings as nodes of a spread -/
def keyM (F T B : Int) : NKey := (.inl F, [.inl T, .inl B])
theorem keyM_inj {F T B F' T' B' : Int} (h : keyM F T B = keyM F' T' B') : F = F' ∧ T = T' ∧ B = B' := by
  injection h with h1 h2
  injection h2 with h2 h3
  injection h3 with h3 _
  exact ⟨Sum.inl.inj h1, Sum.inl.inj h2, Sum.inl.inj h3⟩
def dE (x : Sq5) : Dd × NKey := ((x.w, x.m), keyM x.f x.t x.b)
def eM (ms : List Int) (R : Int) : NKey → List (Dd × NKey)
  | (.inl F, [.inl T, .inl B]) => (stepsOf ms R F T B).map dE
  | _ => []
theorem eM_key (ms : List Int) (R F T B : Int) : eM ms R (keyM F T B) = (stepsOf ms R F T B).map dE := rfl
theorem nv_of {K : PySem.W.Frag} {H : Hp} {g q : Addr} {F T B : Int} (h1 : SqZ K H g [.int F, .ref q]) (h2 : SqZ K H q [.int T, .int B]) : NV K H (.ref g) (keyM F T B) := ⟨g, rfl, q, h1, h2⟩
theorem nv_at {K : PySem.W.Frag} {H : Hp} {v : V} {F T B : Int} (h : NV K H v (keyM F T B)) : ∃ g q, v = .ref g ∧ SqZ K H g [.int F, .ref q] ∧ SqZ K H q [.int T, .int B] := by
  obtain ⟨g, e, q, h1, h2⟩ := h
  exact ⟨g, q, e, h1, h2⟩
theorem pair_of {α β : Type} {R : α → β → Prop} : ∀ (xs : List α) (ss : List β), xs.length = ss.length → (∀ (j : Nat) v s, xs[j]? = some v → ss[j]? = some s → R v s) → Paired R xs ss
  | [], [], _, _ => .nil
  | x :: xs, s :: ss, e, h => .cons (h 0 x s rfl rfl) (pair_of xs ss (by simpa using e) fun j v t hv ht => h (j + 1) v t (by simpa using hv) (by simpa using ht))
  | [], _ :: _, e, _ => by simp at e
  | _ :: _, [], e, _ => by simp at e
theorem edx_of {K : PySem.W.Frag} {H : Hp} {xs : List V} {ss : List Sq5} (h : SL K H xs ss) : EdX K H xs (ss.map dE) := by
  refine pair_of _ _ (by rw [List.length_map]; exact h.1) fun j v s hv hs => ?_
  rw [List.getElem?_map] at hs
  obtain ⟨x, hx, rfl⟩ := Option.map_eq_some_iff.mp hs
  obtain ⟨p, d, g, q, rfl, h1, h2, h3, h4⟩ := h.2 j v x hv hx
  exact ⟨p, .ref d, .ref g, rfl, h1, ⟨d, rfl, h2⟩, nv_of h3 h4⟩
/-- the step's steps -/
theorem eM_mem {ms : List Int} {R F T B : Int} {y : Dd × NKey} (h : y ∈ eM ms R (keyM F T B)) : ∃ m ∈ ms, (F + m ≤ R ∧ (y = dE (sStrong F T B m) ∨ y = dE (sThin F T B m))) ∨ (m ≤ F ∧ y = dE (sOff F T B m)) := by
  rw [eM_key] at h
  obtain ⟨x, hx, rfl⟩ := List.mem_map.mp h
  unfold stepsOf at hx
  rcases List.mem_append.mp hx with hx | hx
  · rcases List.mem_append.mp hx with hx | hx
    · obtain ⟨m, hm, rfl⟩ := List.mem_map.mp hx
      obtain ⟨h1, h2⟩ := List.mem_filter.mp hm
      exact ⟨m, h1, .inl ⟨of_decide_eq_true h2, .inl rfl⟩⟩
    · obtain ⟨m, hm, rfl⟩ := List.mem_map.mp hx
      obtain ⟨h1, h2⟩ := List.mem_filter.mp hm
      exact ⟨m, h1, .inl ⟨of_decide_eq_true h2, .inr rfl⟩⟩
  · obtain ⟨m, hm, rfl⟩ := List.mem_map.mp hx
    obtain ⟨h1, h2⟩ := List.mem_filter.mp hm
    exact ⟨m, h1, .inr ⟨of_decide_eq_true h2, rfl⟩⟩
theorem eM_len {ms : List Int} {R F T B : Int} (h : ms.length ≤ 3) : (eM ms R (keyM F T B)).length ≤ 9 := by
  rw [eM_key, List.length_map]
  unfold stepsOf
  rw [List.length_append, List.length_append, List.length_map, List.length_map, List.length_map]
  have h1 := List.length_filter_le (fits R F) ms
  have h2 := List.length_filter_le (less' F) ms
  omega
end K64

namespace K64
open PySem PySem.Spec PyProof.Rows L2 GM TM BF BE
/-! ### what holds of a mixing d steps deep -/
def okM (R : Int) (d : Nat) (k : NKey) : Prop := ∃ F T B : Int, k = keyM F T B ∧ 0 ≤ F ∧ F ≤ R ∧ Amt T B ∧ Bt (16 * d + 2) T ∧ Bt (16 * d + 2) B
theorem okM_first {R : Int} (h : 0 ≤ R) : okM R 0 (keyM 0 0 1) := ⟨0, 0, 1, rfl, Int.le_refl _, h, amt_one (Int.le_refl _), by unfold Bt; decide, by unfold Bt; decide⟩
theorem okM_step {ms : List Int} {R : Int} {d : Nat} {k : NKey} (hm : ∀ m ∈ ms, 1 ≤ m ∧ m ≤ 1000) (hR : R ≤ 10000) (h : okM R d k) : ∀ x ∈ eM ms R k, okM R (d + 1) x.2 := by
  obtain ⟨F, T, B, rfl, f0, fR, am, bT, bB⟩ := h
  intro y hy
  obtain ⟨m, mm, hc⟩ := eM_mem hy
  obtain ⟨m1, m2⟩ := hm m mm
  have t0 := am.t0
  have b1 := am.b1
  have up : ∀ {j : Nat} {x : Int}, j ≤ 14 → Bt (16 * d + 2 + j) x → Bt (16 * (d + 1) + 2) x := fun hj h => h.mono (by omega)
  have up0 : ∀ {x : Int}, Bt (16 * d + 2) x → Bt (16 * (d + 1) + 2) x := fun h => h.mono (by omega)
  rcases hc with ⟨fr, rfl | rfl⟩ | ⟨mf, rfl⟩
  · have mB0 : 0 ≤ m * B := Int.mul_nonneg (by omega) (by omega)
    have tb : Bt (16 * d + 2 + 11) (T + m * B) := by
      have q1 : Bt (10 + (16 * d + 2)) (m * B) := Bt.mul (bt_lt 10 (c := 1001) (by omega) (by omega)) bB
      have q2 : Bt (10 + (16 * d + 2)) T := bT.mono (by omega)
      exact (q2.add q1).mono (by omega)
    exact ⟨F + m, _, _, rfl, by omega, fr, low_amt (by omega) b1, up (by decide) (tb.div (by omega)), up0 (bB.div (by omega))⟩
  · exact ⟨F + m, T, B, rfl, by omega, fr, am, up0 bT, up0 bB⟩
  · have q1 : Bt (16 * d + 2 + 14) (T * (F - m)) := bT.mul (bt_lt 14 (c := 10001) (by omega) (by omega))
    have q2 : Bt (16 * d + 2 + 14) (B * F) := bB.mul (bt_lt 14 (c := 10001) (by omega) (by omega))
    have p1 : 0 ≤ T * (F - m) := Int.mul_nonneg t0 (by omega)
    have p2 : 1 ≤ B * F := by
      have := Int.mul_le_mul b1 (show 1 ≤ F by omega) (by decide) (by omega)
      omega
    exact ⟨F - m, _, _, rfl, by omega, by omega, low_amt p1 p2, up (by decide) (q1.div p1), up (by decide) (q2.div (by omega))⟩
/-- a mixing of a depth of at most 6 may be handed to steps_from and strength -/
theorem okM.bits {R : Int} {d : Nat} {F T B : Int} (hd : d ≤ 60) (h : okM R d (keyM F T B)) : 0 ≤ F ∧ F ≤ R ∧ Amt T B ∧ Bt 1500 T ∧ Bt 1500 B := by
  obtain ⟨F', T', B', e, h1, h2, h3, h4, h5⟩ := h
  obtain ⟨rfl, rfl, rfl⟩ := keyM_inj e
  exact ⟨h1, h2, h3, h4.mono (by omega), h5.mono (by omega)⟩
def gM (least : Int) (one : Int × Int) : NKey → Bool
  | (.inl F, [.inl T, .inl B]) => decide (least ≤ F) && decide ((lt' T (B * F), lb' T (B * F)) = one)
  | _ => false
def bM (ms : List Int) (R least : Int) (one : Int × Int) (deep most : Nat) : Pr := { E := eM ms R, goal := gM least one, deep := deep, most := most }
end K64

/-! ### a call to which the def's own cells are lent -/
namespace L2
open PySem PySem.Spec PySem.Calls PyProof.Rows
inductive Lent (X : Cx) : List (Str × Addr) → List Nat → Prop
  | nil : Lent X [] []
  | cons {y : Str} {c : Addr} {j : Nat} {cl : List (Str × Addr)} {js : List Nat} : X.N[j]? = some y → X.env.scope.names.lookup y = some .cell → X.env.cells.lookup y = some c → X.fn y = true → Lent X cl js → Lent X ((y, c) :: cl) (j :: js)
def tLend (cl : List (Str × Addr)) (js : List Nat) (sp : Sp) (E : XK) (t : TA) : TE := fun σ H Q => t σ H fun vs H1 => ∃ ws : List V, js.map (fun j => σ[j]?) = ws.map (fun v => some (some v)) ∧
  ∀ cs : List (Addr × Obj), cs.map (·.1) = cl.map (·.2) → Cells (trkA cs H1) cl cs ws → (∀ c ∈ cs.map (·.1), H1 c = none) → sp vs (trkA cs H1) (fun v H2 => Q v (dropA (cs.map (·.1)) H2)) (fun C dd H2 => E C dd (dropA (cs.map (·.1)) H2))
section
variable {X : Cx} {pins : List (Addr × Obj)} {σ : St} {H : Hp} {s : Shared}
theorem lent_cells (I : Inv X pins σ H s) {cl : List (Str × Addr)} {js : List Nat} (L : Lent X cl js) : ∀ ws : List V, js.map (fun j => σ[j]?) = ws.map (fun v => some (some v)) → ∃ cs : List (Addr × Obj), cs.map (·.1) = cl.map (·.2) ∧ (∀ p ∈ cs, s.heap.get? p.1 = some p.2 ∧ H p.1 = none ∧ (∃ v, p.2.data = .cell v) ∧ X.s₀.heap.objs.size ≤ p.1) ∧ ∀ H', (∀ p ∈ cs, H' p.1 = some (.frz p.2 (.own 0))) → Cells H' cl cs ws := by
  induction L with
  | nil =>
    intro ws e
    cases ws with
    | nil => exact ⟨[], rfl, fun p hp => (nomatch hp), fun _ _ => .nil⟩
    | cons _ _ => cases e
  | @cons y c j cl js hN hk hc hf _ ih =>
    intro ws e
    cases ws with
    | nil => cases e
    | cons v ws =>
      rw [List.map_cons, List.map_cons] at e
      injection e with e1 e2
      obtain ⟨cs, h1, h2, h3⟩ := ih ws e2
      obtain ⟨m, _, hlk⟩ := I.loc
      obtain ⟨u, rv, lk⟩ := hlk j y v hN e1 (.inr (.inl hk))
      have ic : s.heap.IsCell c (some u) := by
        rcases lk with ⟨k1, _⟩ | ⟨_, c2, q2, ic⟩
        · have k1 : X.env.scope.names.lookup y = some .local := k1
          rw [hk] at k1; cases k1
        · rw [hc] at q2; cases q2; exact ic
      obtain ⟨o, ho, hd⟩ := ic
      refine ⟨(c, o) :: cs, by rw [List.map_cons, List.map_cons, h1], fun p hp => ?_, fun H' hH => .cons (hH _ (List.mem_cons_self ..)) hd rv (h3 H' fun p hp => hH p (List.mem_cons_of_mem _ hp))⟩
      rcases List.mem_cons.mp hp with rfl | hp
      · exact ⟨ho, I.freeC y c hc, ⟨_, hd⟩, I.ok.cab y c hf hc⟩
      · exact h2 p hp
theorem lkA_mem {cs : List (Addr × Obj)} {c : Addr} {o : Obj} (h : cs.lookup c = some o) : (c, o) ∈ cs := by
  induction cs with
  | nil => cases h
  | cons p r ih =>
    rw [List.lookup_cons] at h
    by_cases e : c = p.1
    · subst e
      simp at h
      rw [← h]
      exact List.mem_cons_self ..
    · rw [beq_false_of_ne e] at h
      exact List.mem_cons_of_mem _ (ih h)
theorem pe_lend {k : Nat} {x : Str} {ps : List Str} {sp : Sp} {E : XK} {e : Expr} {es : List Expr} {t : TA} {p pos : Pos} {cl : List (Str × Addr)} {js : List Nat} (C : Cal X.prog X.w X.K X.mg X.base (CXg X.prog X.w) k x ps sp) (hr : Room k X.A) (hg : Gl X x) (hx : Passes (CXg X.prog X.w) X E) (L : Lent X cl js)
    (ha : PA X (e :: es) t) (hdb : (x == ("__debug__" : Str)) = false := by decide) (he : starEach (e :: es) X.env = (false, eval e X.env) :: starEach es X.env := by rfl) (hpl : (backTo pos (starEach es X.env)).any (·.1) = false := by rfl) :
    PE X (.Call (.Name x p) (e :: es) [] pos) (tLend cl js sp E t) := by
  obtain ⟨f, fd, hm, hk, hb, F⟩ := C.ex
  intro pins s σ H Q I h
  refine wpAny_Call_Name_kw (ld_glob I hg hm ?_ hdb)
  refine PySem.W.callWith_K (h₀ := X.base) I.ok.mod.kin hk (thn (ha pos pins s σ H _ I h) fun us s1 ⟨vs, H1, I1, r, ws, hws, q⟩ => ⟨I1.kIn, ?_⟩) he hpl
  obtain ⟨cs, e1, hc, mk⟩ := lent_cells I1 L ws hws
  have hcl : ∀ c o, cs.lookup c = some o → s1.heap.get? c = some o ∧ H1 c = none := fun c o z => ⟨(hc _ (lkA_mem z)).1, (hc _ (lkA_mem z)).2.1⟩
  have nf : ∀ c ∈ cs.map (·.1), c ∉ frs X.stack := fun c m z => by
    obtain ⟨p, hp, rfl⟩ := List.mem_map.mp m
    obtain ⟨h1, h2, ⟨v, h3⟩, h4⟩ := hc p hp
    rcases List.mem_cons.mp (I1.stkSub _ z) with z | z
    · obtain ⟨m, ⟨o, es, ep, g1, g2, _⟩, _⟩ := I1.loc
      rw [← z, h1] at g1
      cases g1
      rw [h3] at g2
      cases g2
    · obtain ⟨_, o, ho, _⟩ := I1.ok.funs.mem z
      exact absurd (Heap.lt_size ho) (Nat.not_lt.mpr h4)
  have nb : ∀ b o, X.base.get? b = some o → b ∉ cs.map (·.1) := fun b o z m => by
    obtain ⟨p, hp, rfl⟩ := List.mem_map.mp m
    have := Heap.lt_size z
    exact absurd (Nat.lt_of_lt_of_le this I1.ok.bsz) (Nat.not_lt.mpr (hc p hp).2.2.2)
  have e0 := I1.env0
  have e0' : Env0 X.prog X.w X.K X.mg X.base X.A X.stack s1 (trkA cs H1) := ⟨e0.frames, e0.mod, fun b o z => ⟨(e0.bs b o z).1, by rw [trkA_out (lk_none (nb b o z))]; exact (e0.bs b o z).2⟩, e0.bsz, e0.funs, fun b hb => by rw [trkA_out (lk_none fun m => nf b m hb)]; exact e0.frf b hb, e0.hok.trk hcl, e0.bare⟩
  have cell : Cells (trkA cs H1) cl cs ws := mk _ fun p hp => by
    obtain ⟨o, ho⟩ := lk_mem.mp (List.mem_map.mpr ⟨p, hp, rfl⟩)
    have q1 := (hcl _ _ ho).1
    rw [(hc p hp).1] at q1
    cases q1
    exact trkA_in ho
  have q' := q cs e1 cell fun c m => by
    obtain ⟨p, hp, rfl⟩ := List.mem_map.mp m
    exact (hc p hp).2.1
  have hl : us.length = ps.length := by rw [← r.length]; exact F.len _ _ _ _ q'
  have hb' := hb s1 us I1.kIn (by rw [List.append_nil]; exact hl)
  rw [List.append_nil] at hb'
  have hc3 : ∀ c o, cs.lookup c = some o → s1.heap.get? c = some o ∧ H1 c = none ∧ c ∉ frs X.stack := fun c o z => ⟨(hcl c o z).1, (hcl c o z).2, nf c (lk_mem.mpr ⟨o, z⟩)⟩
  refine wpAny_call (codeAny_mono (F.run X.A X.stack s1 (trkA cs H1) ⟨us, []⟩ us vs _ _ hr e0' hb' r q') fun r s' hq => ?_)
  cases r with
  | error e =>
    obtain ⟨ea, C, dd, H2, rfl, Fx, hE⟩ := hq
    obtain ⟨B, okB, fly, bk, th⟩ := Fx.fl
    have cB : ∀ c o, cs.lookup c = some o → B.get? c = some o := fun c o z => (okB c _ (Fx.un.frzs c _ _ (trkA_in z))).1
    have up : ∀ c v, H1 c = some v → trkA cs H1 c = some v := fun c v z => by
      rw [trkA_out (lk_none fun m => by
        obtain ⟨o, ho⟩ := lk_mem.mp m
        rw [(hcl c o ho).2] at z; cases z)]
      exact z
    have nin : ∀ c v, H1 c = some v → c ∉ cs.map (·.1) := fun c v z m => by
      obtain ⟨o, ho⟩ := lk_mem.mp m
      rw [(hcl c o ho).2] at z; cases z
    refine hx pins σ H1 s1 _ s' I1 ⟨ea, C, dd, dropA (cs.map (·.1)) H2, rfl, ⟨Fx.os, Fx.bare, ?_, B, ?_, fly, fun b o z n nb => ?_, th⟩, hE⟩
    · refine ⟨fun b o e n hb hx => ?_, fun b o e n hb hx => ?_, fun b o e n hx => ?_, fun b o e hx => Fx.un.there b o e hx, fun b xs e => ?_, fun b o v e => ?_, fun b ps e => ?_⟩
      · cases q : cs.lookup b with
        | some o' =>
          have h1 := (hcl b o' q).1
          rw [e] at h1; cases h1
          exact fly.st _ _ (cB b _ q)
        | none => exact Fx.un.keep b o e (by rw [trkA_out q]; exact n) hb hx
      · cases q : cs.lookup b with
        | some o' => exact absurd hb (hc3 b o' q).2.2
        | none => exact Fx.un.slot b o e (by rw [trkA_out q]; exact n) hb hx
      · by_cases m : b ∈ cs.map (·.1)
        · exact dropA_in m
        · rw [dropA_out m]
          exact Fx.un.free b o e (by rw [trkA_out (lk_none m)]; exact n) hx
      · rw [dropA_out (nin b _ e)]; exact Fx.un.tups b xs (up _ _ e)
      · rw [dropA_out (nin b _ e)]; exact Fx.un.frzs b o v (up _ _ e)
      · obtain ⟨more, hm⟩ := Fx.un.tbls b ps (up _ _ e)
        exact ⟨more, by rw [dropA_out (nin b _ e)]; exact hm⟩
    · exact okB.drp fun c m => by
        obtain ⟨o, ho⟩ := lk_mem.mp m
        exact ⟨o, _, Fx.un.frzs c _ _ (trkA_in ho)⟩
    · cases q : cs.lookup b with
      | some o' =>
        have h1 := (hcl b o' q).1
        rw [z] at h1; cases h1
        exact cB b _ q
      | none => exact bk b o z (by rw [trkA_out q]; exact n) nb
  | ok fl =>
    cases fl with
    | next => exact False.elim hq
    | brk => exact False.elim hq
    | cont => exact False.elim hq
    | ret u =>
      obtain ⟨v, H2, os, bare, un, hok, rv, hQ⟩ := hq
      obtain ⟨un', hok'⟩ := Un.lent (P := X.prog) (w := X.w) un hok hc3
      exact I1.after ⟨v, _, os, bare, un', hok', rv, hQ⟩
end
end L2

/-! ### max(ints, default=n) -/
namespace L2
open PySem PySem.Spec PyProof.Rows
section
variable {prog : Program} {w : World} {A : Around} {E : Value → Shared → Prop} {R : Result → Shared → Prop} {I S : Addr} {fp wr : List Addr} {n : Nat} {P : Nat → Value → Prop} {St : Nat → Heap → Prop} {kw : List (Str × Value)}
abbrev lsO (xs : Array Value) (c : Nat) : Obj := { cls := .type "list", dict := none, data := .seq xs c, slots := #[] }
theorem mxName : (toString "max" ++ toString ".loop" : String) = "max.loop" := by decide
theorem mx_turn (W : Walks prog w A.in1 I fp wr n P St) (bt : Nat → Nat → Bool) (hcmp : CmpOf prog w A.in1 .Gt P bt) (hSf : S ∉ fp) : ∀ (k j : Nat) (s : Shared) (vb : Value) (c : Nat), n - (j + 1) = k → j + 1 ≤ n → St (j + 1) s.heap → P (argBest bt j) vb → s.heap.get? S = some (lsO #[vb, vb] c) →
    (∀ v h' tk, P (argBest bt (n - 1)) v → (∀ b o, b ∉ wr → b ≠ S → s.heap.get? b = some o → h'.get? b = some o) → R (.ok (.ret v)) { s with heap := h', toks := tk }) → codeAny (model prog w) A (.builtin "max.loop" ⟨[.ref I, .none, .ref S], kw⟩) R s := by
  have hSw : S ∉ wr := fun h => hSf (W.sub _ h)
  intro k; induction k with
  | zero =>
    intro j s vb c hk hj hst hPb hS hR; have hin : j + 1 = n := by omega
    refine codeAny_builtin F.entry_max_loop ?_; rw [Around.under_plainId F.plain_max_loop _]
    show wpAny _ A.in1 (seqItems? (.ref S) >>= _) _ _ s; refine wpAny_bind (wpAny_seqItems hS rfl ?_)
    show wpAny _ A.in1 (tryCatch (pyNext (.ref I)) _ >>= _) _ _ s; refine wpAny_bind (wpAny_tryCatch (W.done s _ _ (hin ▸ hst) fun h' tk hk' => ?_)); have hS' := hk' S _ hSw hS
    show wpAny _ A.in1 (updateSeq S (fun _ => #[]) >>= _) _ _ _; refine wpAny_bind (wpAny_updateSeq hS' rfl (wpAny_bind (wpAny_letGo (wpAny_pure ?_))))
    exact hR vb _ tk (by rw [← hin]; exact hPb) fun b o hbw hbS e => (Heap.get?_update_other _ _ (Ne.symm hbS)).trans (hk' b o hbw e)
  | succ k ih =>
    intro j s vb c hk hj hst hPb hS hR; have hlt : j + 1 < n := by omega
    refine codeAny_builtin F.entry_max_loop ?_; rw [Around.under_plainId F.plain_max_loop _]
    show wpAny _ A.in1 (seqItems? (.ref S) >>= _) _ _ s; refine wpAny_bind (wpAny_seqItems hS rfl ?_)
    show wpAny _ A.in1 (tryCatch (pyNext (.ref I)) _ >>= _) _ _ s; refine wpAny_bind (wpAny_tryCatch (W.item (j + 1) s _ _ hlt hst fun v h' tk hP hst' hk' => ?_)); have hS' := hk' S _ hSw hS
    show wpAny _ A.in1 (tryCatch (holding [v, v] (richCompare .Gt v vb >>= _)) _ >>= _) _ _ _; refine wpAny_bind (wpAny_tryCatch (wpAny_holding (wpAny_bind (hcmp (j + 1) (argBest bt j) v vb _ _ _ hP hPb ?_))))
    refine wpAny_bind (wpAny_holding (wpAny_truthy_bool ?_)); refine wpAny_bind (wpAny_letGo (wpAny_pure ?_))
    cases hb : bt (j + 1) (argBest bt j) with
    | true =>
      simp only [if_true]; refine wpAny_bind (wpAny_updateSeq hS' rfl (wpAny_bind (wpAny_letGo ?_))); rw [mxName]
      refine wpAny_pure ⟨plainId_quiet F.plain_max_loop _, ih (j + 1) _ v _ (by omega) hlt (W.frame _ _ _ hst' fun b hbf o e => ?_) (by simp only [argBest, hb, if_true]; exact hP) (Heap.get?_update_self _ hS' rfl) fun v' h'' tk'' hP' hk'' => hR v' h'' tk'' hP' fun b o hbw hbS e => hk'' b o hbw hbS ((Heap.get?_update_other _ _ (Ne.symm hbS)).trans (hk' b o hbw e))⟩
      exact (Heap.get?_update_other _ _ (fun h : S = b => hSf (by rw [h]; exact hbf))).trans e
    | false =>
      simp only [Bool.false_eq_true, if_false]; refine wpAny_bind (wpAny_letGo ?_); rw [mxName]
      exact wpAny_pure ⟨plainId_quiet F.plain_max_loop _, ih (j + 1) _ vb c (by omega) hlt hst' (by simp only [argBest, hb, Bool.false_eq_true, if_false]; exact hPb) hS' fun v' h'' tk'' hP' hk'' => hR v' h'' tk'' hP' fun b o hbw hbS e => hk'' b o hbw hbS (hk' b o hbw e)⟩
theorem mx_first {s : Shared} {c : Nat} (W : Walks prog w A.in1 I fp wr n P St) (bt : Nat → Nat → Bool) (hcmp : CmpOf prog w A.in1 .Gt P bt) (hSf : S ∉ fp) (hn : 0 < n) (hst : St 0 s.heap) (hS : s.heap.get? S = some (lsO #[] c))
    (hR : ∀ v h' tk, P (argBest bt (n - 1)) v → (∀ b o, b ∉ wr → b ≠ S → s.heap.get? b = some o → h'.get? b = some o) → R (.ok (.ret v)) { s with heap := h', toks := tk }) : codeAny (model prog w) A (.builtin "max.loop" ⟨[.ref I, .none, .ref S], kw⟩) R s := by
  have hSw : S ∉ wr := fun h => hSf (W.sub _ h)
  refine codeAny_builtin F.entry_max_loop ?_; rw [Around.under_plainId F.plain_max_loop _]
  show wpAny _ A.in1 (seqItems? (.ref S) >>= _) _ _ s; refine wpAny_bind (wpAny_seqItems hS rfl ?_)
  show wpAny _ A.in1 (tryCatch (pyNext (.ref I)) _ >>= _) _ _ s; refine wpAny_bind (wpAny_tryCatch (W.item 0 s _ _ hn hst fun v h' tk hP hst' hk' => ?_)); have hS' := hk' S _ hSw hS
  show wpAny _ A.in1 (updateSeq S (fun _ => #[v, v]) >>= _) _ _ _; refine wpAny_bind (wpAny_updateSeq hS' rfl ?_); rw [mxName]
  refine wpAny_pure ⟨plainId_quiet F.plain_max_loop _, mx_turn W bt hcmp hSf _ 0 _ v _ rfl hn (W.frame _ _ _ hst' fun b hbf o e => ?_) hP (Heap.get?_update_self _ hS' rfl) fun v' h'' tk'' hP' hk'' => hR v' h'' tk'' hP' fun b o hbw hbS e => hk'' b o hbw hbS ((Heap.get?_update_other _ _ (Ne.symm hbS)).trans (hk' b o hbw e))⟩
  exact (Heap.get?_update_other _ _ (fun h : S = b => hSf (by rw [h]; exact hbf))).trans e
theorem mx_none {s : Shared} {c : Nat} {d : Value} {x : Str} (W : Walks prog w A.in1 I fp wr 0 P St) (hSf : S ∉ fp) (hst : St 0 s.heap) (hS : s.heap.get? S = some (lsO #[] c))
    (hR : ∀ h' tk, (∀ b o, b ∉ wr → b ≠ S → s.heap.get? b = some o → h'.get? b = some o) → R (.ok (.ret d)) { s with heap := h', toks := tk }) : codeAny (model prog w) A (.builtin "max.loop" ⟨[.ref I, .none, .ref S], [(x, d)]⟩) R s := by
  refine codeAny_builtin F.entry_max_loop ?_; rw [Around.under_plainId F.plain_max_loop _]
  show wpAny _ A.in1 (seqItems? (.ref S) >>= _) _ _ s; refine wpAny_bind (wpAny_seqItems hS rfl ?_)
  show wpAny _ A.in1 (tryCatch (pyNext (.ref I)) _ >>= _) _ _ s; refine wpAny_bind (wpAny_tryCatch (W.done s _ _ hst fun h' tk hk' => ?_))
  show wpAny _ A.in1 (rule _ >>= _) _ _ _
  refine wpAny_bind (wpAny_rule (wpAny_pure ?_))
  exact hR h' tk fun b o hbw _ e => hk' b o hbw e
theorem args_maxD (a v : Value) : argsOk "max" ⟨[a], [(Str.ofString "default", v)]⟩ := by unfold argsOk; kernel_rfl
theorem call_maxD {s : Shared} {l : Addr} {xs : Array (Int × Tok)} {d : Value} {Q : Value → Shared → Prop} (hh : A.handled = none) (hl : s.heap.IsList l (intItems xs))
    (h0 : xs.size = 0 → ∀ h' tk, (∀ b o, s.heap.get? b = some o → h'.get? b = some o) → Q d { s with heap := h', toks := tk })
    (h1 : ∀ v h' tk, 0 < xs.size → (intItems xs)[argBest (fun i j => decide (numAt xs i > numAt xs j)) (xs.size - 1)]? = some v → (∀ b o, s.heap.get? b = some o → h'.get? b = some o) → Q v { s with heap := h', toks := tk }) : wpAny (model prog w) A (call (.builtin "max") [.ref l] [(Str.ofString "default", d)]) Q E s := by
  refine wpAny_call (codeAny_call_builtin F.plain_max F.entry_max ?_)
  have hfin : wpAny (model prog w) A.in1 (Builtin.«max» ⟨[.ref l], [(Str.ofString "default", d)]⟩) (fun fin s' => match fin with
      | .done f => (match (Except.ok f : Result) with | .ok (.ret v) => Q v s' | .ok _ => False | .error e => E e s')
      | .again c' => c'.quiet = true ∧ codeAny (model prog w) A c' (fun r s' => match r with | .ok (.ret v) => Q v s' | .ok _ => False | .error e => E e s') s') E s := by
    show wpAny _ A.in1 (Builtin.Builtins.bindParams "max" ["key", "default"] 0 ⟨[], [(Str.ofString "default", d)]⟩ >>= _) _ _ s
    refine wpAny_bind (wpAny_of_eq (show Builtin.Builtins.bindParams "max" ["key", "default"] 0 ⟨[], [(Str.ofString "default", d)]⟩ = pure [none, some d] from rfl) ?_)
    refine wpAny_bind (wpAny_pure (wpAny_bind (iter_intList hl fun s₂ e st hfp hlI => ?_)))
    subst e
    refine wpAny_bind (wpAny_newObj_type ?_); rw [mxName]
    have hSf : (s.heap.push { cls := .type "list_iterator", data := .fields #[.ref l, .int 0 0] }).objs.size ∉ [s.heap.objs.size, l] := fun hm => Nat.lt_irrefl _ (hfp _ hm)
    have W := Walks.list (prog := prog) (w := w) (A := A.in1) hh s.heap.objs.size l hlI (intItems xs)
    have ez : (intItems xs).size = xs.size := by simp [intItems]
    rw [ez] at W
    have st' := W.frame _ _ _ st fun b _ o e => Heap.get?_push_of_some (lsO #[] 0) e
    by_cases hx : xs.size = 0
    · rw [hx] at W
      exact wpAny_pure ⟨plainId_quiet F.plain_max_loop _, mx_none W hSf st' (Heap.get?_push_size _ rfl) fun h' tk hk => h0 hx h' tk (old_kept fun b o hb e => hk b o hb (Nat.ne_of_lt (Heap.lt_size e)) (Heap.get?_push_of_some _ e))⟩
    · refine wpAny_pure ⟨plainId_quiet F.plain_max_loop _, mx_first W _ (CmpOf.ints_gt (numAt xs) (fun _ _ => intItems_at)) hSf (by omega) st' (Heap.get?_push_size _ rfl) fun v h' tk hP hk => ?_⟩
      exact h1 v h' tk (by omega) hP (old_kept fun b o hb e => hk b o hb (Nat.ne_of_lt (Heap.lt_size e)) (Heap.get?_push_of_some _ e))
  simp only [checkBuiltinCall, F.kind_max]
  cases hsig : Manifest.signature? "max" with
  | none => exact wpAny_pure hfin
  | some sig =>
    have ha' : Bind.checkArgs "max" sig ⟨[.ref l], [(Str.ofString "default", d)]⟩ = pure () := by
      have z := args_maxD (.ref l) d
      simpa only [argsOk, hsig] using z
    simp only [ha']
    exact wpAny_pure hfin
end
def tMaxD (K : PySem.W.Frag) (d : Int) (te : TE) : TE := fun σ H Q => te σ H fun x H1 => ∃ l ns, x = .ref l ∧ SqL K H1 l (ns.map V.int) ∧ ∀ m : Int, (ns = [] ∧ m = d ∨ m ∈ ns ∧ ∀ a ∈ ns, a ≤ m) → Q (.int m) H1
theorem pe_maxD {X : Cx} {e : Expr} {te : TE} {p pos kp cp : Pos} {d : Int} {j : Nat} (hc : X.calm = true) (hg : Gl X "max") (hm : X.mg "max" = none) (he : PE X e te)
    (h1 : backTo pos (starEach [e] X.env) = (false, eval e X.env) :: backTo pos (starEach [] X.env) := by rfl) (h2 : (backTo pos (starEach [e] X.env)).any (·.1) = false := by rfl) :
    PE X (.Call (.Name "max" p) [e] [⟨some "default", .Constant (.int d) j cp, kp⟩] pos) (tMaxD X.K d te) := by
  intro pins s σ H Q I h
  refine wpAny_Call_Name_kw (ld_blt I hg hm boot_max (callWith_kw ?_ h1 h2 rfl rfl))
  rw [h1]
  refine Calls.spliced_cons (thn (he pins s σ H _ I h) fun v s1 ⟨x, H1, I1, r1, l, ns, ex, hl, q⟩ => ?_)
  subst ex
  cases r1
  refine Calls.spliced_nil ?_
  refine kws_cons (thn (pe_int (X := X) (i := d) pins s1 σ H1 (fun x H2 => x = .int d ∧ H2 = H1) I1 ⟨rfl, rfl⟩) fun v2 s2 ⟨x2, H2, I2, r2, e1, e2⟩ => ?_)
  subst e1 e2
  obtain ⟨t2, rfl⟩ := r2
  obtain ⟨its, r', pl, hz⟩ := I2.list hl
  refine kws_nil ?_
  have hi := intsAre_of r'
  obtain ⟨xs, e⟩ := hi.allInts.items
  have hns : ns = xs.toList.map (·.1) := by rw [← hi.numsOf, ← nums_intItems, ← e]
  have hL : s2.heap.IsList l (intItems xs) := e ▸ pl.isList
  refine call_maxD (I2.ok.hd hc) hL (fun h0 h' tk keep => ⟨.int d, H2, I2.kept keep, ⟨t2, rfl⟩, q d (.inl ⟨?_, rfl⟩)⟩) fun v h' tk hp hv keep => ?_
  · rw [hns, Array.eq_empty_of_size_eq_zero h0]; rfl
  · obtain ⟨t, rfl⟩ := intItems_at hv
    obtain ⟨g1, g2⟩ := argBest_gt (numAt xs) (xs.size - 1)
    refine ⟨.int (numAt xs (argBest (fun i j => decide (numAt xs i > numAt xs j)) (xs.size - 1))), H2, I2.kept keep, ⟨t, rfl⟩, q _ (.inr ⟨?_, fun a ha => ?_⟩)⟩
    · rw [hns, numAt_eq]; exact getD_mem (by rw [List.length_map, Array.length_toList]; omega)
    · rw [hns] at ha
      obtain ⟨j, hj, rfl⟩ := mem_getD ha
      rw [List.length_map, Array.length_toList] at hj
      rw [← numAt_eq]; exact g2 j (by omega)
end L2

/-! ### sorted(xs, key=lambda x: body, reverse=True), the lambda's body read by rules, one name of the def's own seen in it -/
namespace L2
open PySem PySem.Spec PySem.Calls PyProof.Rows
/-- the context of a lambda's body -/
def lmX (X : Cx) (N' : List Str) (qual : Str) (scope : Scope) (cl : List (Str × Addr)) (f : Addr) (cd : Value) (A : Around) (s : Shared) (H : Hp) : Cx where
  prog := X.prog
  w := X.w
  K := X.K
  mg := X.mg
  base := X.base
  A := A.deeper (PySem.W.envX qual scope s.heap.objs.size f cd cl)
  N := N'
  s₀ := s
  H₀ := H
  env := PySem.W.envX qual scope s.heap.objs.size f cd cl
  outer := X.stack
  stack := PySem.W.envX qual scope s.heap.objs.size f cd cl :: X.stack
  ex := []
  fn := fun _ => false
  calm := true
  pn := []
  xe := fun _ _ => False
/-- a lambda of one parameter, one free name -/
structure LmS (scope : Scope) (x y : Str) : Prop where
  kind : scope.kind = .function
  co : scope.isCoroutine = false
  gen : scope.isGenerator = false
  cell : ∀ z ∈ scope.names, z.2 ≠ .cell
  loc : scope.names.lookup x = some .local
  fre : scope.names.lookup y = some .free
  only : ∀ z, scope.names.lookup z = some .free → z = y
section
variable {X : Cx} {pins : List (Addr × Obj)} {σ : St} {H : Hp} {s : Shared}
theorem lam_callC (I : Inv X pins σ H s) {A : Around} (hA : A.frames = some X.stack) (hh : A.handled = none) (hroom : A.depth < recursionLimit) {f c' cc : Addr} {qual x y : Str} {params : Arguments} {body : Expr} {scope : Scope} {pm ctv u uy : Value} {v vy : V}
    (ru : RelV v u) (ry : RelV vy uy) (S : LmS scope x y) (xy : x ≠ y) (ho : s.heap.get? f = some (PySem.W.kla_obj "<lambda>" qual params body scope [(y, cc)] pm c' ctv)) (hcd : s.heap.CodeRec (.ref c') qual)
    (hb : bindArgs (PySem.W.kla_fn "<lambda>" qual params body scope [(y, cc)] pm (.ref c') ctv) ⟨[u], []⟩ = pure [(x, u)]) (hcell : s.heap.IsCell cc (some uy)) (hcn : H cc = none) {t : TE} {Q : VK}
    (hp : PE (lmX X [x, y] qual scope [(y, cc)] f (.ref c') A s H) body t) (q : t [some v, some vy] H Q) :
    wpAny (model X.prog X.w) A (call (.ref f) [u]) (fun u' s' => CE X.stack X.prog X.w H s Q u' s') (fun _ _ => False) s := by
  refine wpAny_call (PySem.W.kla_callFunE hroom ho rfl S.co S.gen rfl hcd ?_)
  rw [hb]
  have e0 := I.env0
  have lim : s.heap.NoLimit := I.nolimit
  refine wpAny_pure (wpAny_newFunctionEnv S.cell (fun z hz => ?_) (fun h₁ hns hsb => ?_) S.kind)
  · have e : z = (x, u) := by simpa using hz
    rw [e]; exact S.loc
  · have hk₁ : ∀ b o, s.heap.get? b = some o → h₁.get? b = some o := fun b o e => hsb.extBut b o (Nat.ne_of_lt (Heap.lt_size e)) (Heap.get?_push_of_some _ e)
    refine ⟨lim.keeps hk₁, PySem.W.kla_codeExpr ?_⟩
    have lk : ∀ z c, (PySem.W.envX qual scope s.heap.objs.size f (.ref c') [(y, cc)]).cells.lookup z = some c → z = y ∧ c = cc := fun z c e => by
      have e' : [(y, cc)].lookup z = some c := e
      rw [List.lookup_cons] at e'
      by_cases zy : z = y
      · subst zy
        simp at e'
        exact ⟨rfl, e'.symm⟩
      · rw [beq_false_of_ne zy] at e'
        simp at e'
    have lky : (PySem.W.envX qual scope s.heap.objs.size f (.ref c') [(y, cc)]).cells.lookup y = some cc := by
      show [(y, cc)].lookup y = some cc
      simp
    have noA : ∀ b : Addr, b ∉ (lmX X [x, y] qual scope [(y, cc)] f (.ref c') A s H).ex := fun b z => absurd (show b ∈ ([] : List Addr) from z) (by simp)
    have J : Inv (lmX X [x, y] qual scope [(y, cc)] f (.ref c') A s H) [] [some v, some vy] H { s with heap := h₁, toks := s.toks + 1 } := by
      refine ⟨⟨e0.mod, S.kind, rfl, rfl, Nat.le_refl _, fun a b c h1 h2 => ?_, fun a ha => ?_, fun a c h _ => (by cases h), fun _ => hh, Around.frames_deeper hA, .inr ⟨rfl, rfl⟩, fun b z => absurd z (noA b), e0.bs, e0.bsz, fun b _ _ => noA b, fun b z => absurd z (noA b), e0.funs, e0.frf⟩,
        rfl, e0.bare, Un.kept hk₁, ⟨_, hns, fun i z w h1 h2 h3 => ?_⟩, fun a c h => ?_, e0.hok.fresh (Nat.le_refl _), fun a c h => ?_, fun p hp => absurd (show p ∈ ([] : List (Addr × Obj)) from hp) (by simp), e0.hok.kept hk₁, rfl⟩
      · rw [(lk a c h1).1, (lk b c h2).1]
      · have ha : scope.names.lookup a = some .cell ∨ scope.names.lookup a = some .free := ha
        rcases ha with ha | ha
        · exact absurd rfl (S.cell _ (PySem.mem_of_lookup ha))
        · rw [S.only a ha]
          exact ⟨cc, lky⟩
      · match i, h1, h2 with
        | 0, h1, h2 =>
          have h1' : x = z := by
            have h1 : some x = some z := h1
            exact Option.some.inj h1
          have h2' : v = w := by
            have h2 : some (some v) = some (some w) := h2
            exact Option.some.inj (Option.some.inj h2)
          subst h1' h2'
          exact ⟨u, ru, .inl ⟨S.loc, by simp⟩⟩
        | 1, h1, h2 =>
          have h1' : y = z := by
            have h1 : some y = some z := h1
            exact Option.some.inj h1
          have h2' : vy = w := by
            have h2 : some (some vy) = some (some w) := h2
            exact Option.some.inj (Option.some.inj h2)
          subst h1' h2'
          obtain ⟨o, ho', hd'⟩ := hcell
          exact ⟨uy, ry, .inr ⟨.inr S.fre, cc, lky, ⟨o, hk₁ _ _ ho', hd'⟩⟩⟩
        | i + 2, h1, h2 => cases h1
      · obtain ⟨o, ho', hd'⟩ := hcell
        rw [(lk a c h).2]
        exact ⟨_, o, hk₁ _ _ ho', hd'⟩
      · rw [(lk a c h).2]
        exact hcn
    exact wpAny_mono (hp [] _ [some v, some vy] H Q J q) (fun u' s' ⟨v', H', J', rv, q'⟩ => ⟨v', H', J'.os, J'.bare, J'.base, J'.hok, rv, q'⟩) fun _ _ z => z.elim
/-- an untracked object of one's own changes -/
theorem Inv.poke {kS : Addr} {h' : Heap} {tk : Nat} (I : Inv X pins σ H s) (n0 : X.s₀.heap.objs.size ≤ kS) (nL : kS ≠ X.env.locals) (nC : ∀ x c, X.env.cells.lookup x = some c → c ≠ kS) (nP : ∀ p ∈ X.pn ++ pins, p.1 ≠ kS) (hn : H kS = none) (hs : Heap.SameBut kS s.heap h') :
    Inv X pins σ H { s with heap := h', toks := tk } := by
  refine I.step (g' := s.gens) (d' := s.drawn) (ch := [kS]) (fun b hb => ?_) (fun b o _ _ nb e _ => ?_) (fun b o _ _ nb e _ => ⟨o.slots, ?_⟩) (fun b o _ _ n => n) (fun b o nb e => ⟨o, ?_⟩) (fun b xs e => e) (fun b o u e => e) (fun b qs e => ⟨#[], by rw [e]; simp⟩) (fun m hm => hm.sameBut hs nL.symm) (fun b u e => ?_) I.bare
  · rw [List.mem_singleton.mp hb]
    exact ⟨.inr n0, nL, nC, nP⟩
  · exact (hs.2 b (fun z => nb (by simp [z]))).trans e
  · exact (hs.2 b (fun z => nb (by simp [z]))).trans e
  · exact (hs.2 b (fun z => nb (by simp [z]))).trans e
  · refine (I.hok b u e).stay (fun d v hd q => (hs.2 d ?_).trans q) (fun d q => q) fun d xs q => q
    rcases hd with z | z
    · rw [z]
      exact fun y => by rw [y, hn] at e; cases e
    · exact fun y => by rw [y, hn] at z; cases z
theorem perm_paired {α β : Type} {R : α → β → Prop} {b b' : List β} (p : b'.Perm b) : ∀ {a : List α}, Paired R a b → ∃ a', a'.Perm a ∧ Paired R a' b' := by
  induction p with
  | nil => intro a h; exact ⟨a, List.Perm.refl _, h⟩
  | cons x _ ih =>
    intro a h
    cases h with
    | @cons y _ ys _ h1 h2 =>
      obtain ⟨a', pa, ha⟩ := ih h2
      exact ⟨y :: a', pa.cons y, .cons h1 ha⟩
  | swap x y l =>
    intro a h
    cases h with
    | @cons p1 _ r1 _ h1 h2 =>
      cases h2 with
      | @cons p2 _ r2 _ h3 h4 => exact ⟨p2 :: p1 :: r2, List.Perm.swap _ _ _, .cons h3 (.cons h1 h4)⟩
  | trans _ _ ih1 ih2 =>
    intro a h
    obtain ⟨a1, p1, h1⟩ := ih2 h
    obtain ⟨a2, p2, h2⟩ := ih1 h1
    exact ⟨a2, p2.trans p1, h2⟩
theorem paired_zip {kz : List Int} : ∀ {vs : List V} {its : List Value}, Vals vs its → Paired (fun (p : Int × V) (q : Int × Value) => p.1 = q.1 ∧ RelV p.2 q.2) (kz.zip vs) (kz.zip its) := by
  induction kz with
  | nil => intro vs its _; exact .nil
  | cons k kz ih =>
    intro vs its r
    cases r with
    | nil => exact .nil
    | cons h t => exact .cons ⟨rfl, h⟩ (ih t)
theorem frs_lt (I : Inv X pins σ H s) {b : Addr} (hb : b ∈ frs X.stack) : @LT.lt Nat _ b s.heap.objs.size := by
  obtain ⟨_, o, e, _⟩ := I.env0.funs.mem hb
  exact Heap.lt_size e
theorem ane {a b : Nat} (h : a ≠ b) : @Ne Addr a b := h
theorem anl {a b : Nat} (h : ¬ a < b) : ¬ @LT.lt Nat _ a b := h
/-- sorted(xs, key=f[, reverse=b]) where f is called under the invariant -/
theorem inv_sorted {a f : Addr} {fo : Obj} {vs : List V} {kz : List Int} {b : Bool} {kw : List (Str × Value)} {Q : VK} (I : Inv X pins σ H s) (hl : SqL X.K H a vs) (hlen : kz.length = vs.length) (h64 : vs.length < 64)
    (hf : s.heap.get? f = some fo) (hfn : H f = none) (hfs : f ∉ frs X.stack)
    (ha1 : argsOk "sorted" ⟨[.ref a], kw⟩) (ha2 : ∀ x, argsOk "list.sort" ⟨[.ref x], kw⟩) (ht : ∀ x, Builtin.«list.sort» ⟨[.ref x], kw⟩ = ksk_tree x (.ref f) b)
    (turn : ∀ (i : Nat) (v : V) (u : Value) (k : Int), vs[i]? = some v → RelV v u → kz[i]? = some k → ∀ (H1 : Hp) (s1 : Shared), Inv X pins σ H1 s1 → Same H H1 → s1.heap.get? f = some fo → H1 f = none →
      wpAny (model X.prog X.w) X.A.in1.in1 (call (.ref f) [u]) (fun u' s' => CE X.stack X.prog X.w H1 s1 (fun y H2 => y = .int k ∧ Same H1 H2) u' s') (fun _ _ => False) s1)
    (q : ∀ (D : Addr) (ps : List (Int × V)) (H' : Hp), ps.Perm (kz.zip vs) → (ps.Pairwise fun p q => if b then q.1 ≤ p.1 else p.1 ≤ q.1) → Same H H' → H D = none → H' D = some (.lst (ps.map (·.2))) → Q (.ref D) H') :
    wpAny (model X.prog X.w) X.A (call (.builtin "sorted") [.ref a] kw) (EP X pins σ Q) X.xe s := by
  obtain ⟨its, r, pl, hz⟩ := I.list hl
  have rl := r.length
  refine call_function_entry_kw kind_sorted plain_sorted entry_sorted ha1 ?_
  unfold Builtin.«sorted»
  refine wpAny_bind (m := checkCount "sorted" 1 1 _) (wpAny_pure ?_)
  refine wpAny_bind (collect_list pl.isList ?_ (by rw [sizeLine_eq]; omega))
  refine wpAny_bind (wpAny_newList ?_ (by rw [sizeLine_eq]; omega))
  have hsz : ((s.heap.push (seqObj "list" #[] 0)).update s.heap.objs.size (Obj.mapSeq (· ++ its.toArray))).objs.size = s.heap.objs.size + 1 := by
    rw [Heap.size_update, size_push']
  have hoL : (((s.heap.push (seqObj "list" #[] 0)).update s.heap.objs.size (Obj.mapSeq (· ++ its.toArray))).push (seqObj "list" its.toArray 0)).get? (s.heap.objs.size + 1) = some (seqObj "list" its.toArray 0) := by
    rw [← hsz]; exact Heap.get?_push_size _ rfl
  have keep : ∀ b o, s.heap.get? b = some o → (((s.heap.push (seqObj "list" #[] 0)).update s.heap.objs.size (Obj.mapSeq (· ++ its.toArray))).push (seqObj "list" its.toArray 0)).get? b = some o := fun b o q => by
    have hlt : b < s.heap.objs.size := Heap.lt_size q
    rw [Heap.get?_push_ne _ _ _ (by rw [hsz]; exact Nat.ne_of_lt (Nat.lt_succ_of_lt hlt)), Heap.get?_update_ne _ _ _ _ (Nat.ne_of_lt hlt), Heap.get?_push_ne _ _ _ (Nat.ne_of_lt hlt)]
    exact q
  have hsA : (((s.heap.push (seqObj "list" #[] 0)).update s.heap.objs.size (Obj.mapSeq (· ++ its.toArray))).push (seqObj "list" its.toArray 0)).objs.size = s.heap.objs.size + 2 := by rw [size_push', hsz]
  show wpAny _ _ _ _ _ { s with heap := ((s.heap.push (seqObj "list" #[] 0)).update s.heap.objs.size (Obj.mapSeq (· ++ its.toArray))).push (seqObj "list" its.toArray 0) }
  rw [hsz]
  generalize ((s.heap.push (seqObj "list" #[] 0)).update s.heap.objs.size (Obj.mapSeq (· ++ its.toArray))).push (seqObj "list" its.toArray 0) = hA at hoL keep hsA ⊢
  refine wpAny_bind (wpAny_holding (wpAny_call_entry_kw slot_list_sort ⟨_, hoL, rfl⟩ entry_list_sort ?body (ha2 _)))
  case body =>
    have ht' := ht (s.heap.objs.size + 1)
    show wpAny (model X.prog X.w) X.A.in1.in1 (Builtin.«list.sort» ⟨[.ref (s.heap.objs.size + 1)], kw⟩) _ _ _
    rw [ht']
    have s1 := Heap.SameBut.update hA (s.heap.objs.size + 1) (Obj.mapSeq fun _ => (#[] : Array Value))
    obtain ⟨e1, ho1⟩ : ∃ e1, (hA.update (s.heap.objs.size + 1) (Obj.mapSeq fun _ => (#[] : Array Value))).get? (s.heap.objs.size + 1) = some (seqObj "list" #[] e1) := ⟨_, get?_update_seq hoL fun _ => #[]⟩
    have hsB : (hA.update (s.heap.objs.size + 1) (Obj.mapSeq fun _ => (#[] : Array Value))).objs.size = s.heap.objs.size + 2 := by rw [Heap.size_update, hsA]
    unfold ksk_tree
    refine wpAny_bind (listItems_at hoL rfl ?_)
    refine wpAny_bind (listUpdate_at hoL rfl ?_ (by rw [List.size_toArray, sizeLine_eq]; omega) (Nat.zero_le _))
    have kB : ∀ b o, s.heap.get? b = some o → (hA.update (s.heap.objs.size + 1) (Obj.mapSeq fun _ => (#[] : Array Value))).get? b = some o := fun b o e => (s1.2 b (Nat.ne_of_lt (Nat.lt_succ_of_lt (Heap.lt_size e)))).trans (keep b o e)
    dsimp only
    generalize hA.update (s.heap.objs.size + 1) (Obj.mapSeq fun _ => (#[] : Array Value)) = hB at ho1 hsB kB ⊢
    refine wpAny_bind (seqEpoch_at ho1 rfl ?_)
    refine wpAny_bind (wpAny_newTuple ?_ (by show its.length ≤ _; rw [sizeLine_eq]; omega))
    refine wpAny_bind (wpAny_newList ?_ (Nat.zero_le _))
    refine wpAny_holding ?_
    have hsT : (hB.push (seqObj "tuple" its.toArray 0)).objs.size = s.heap.objs.size + 3 := by rw [size_push', hsB]
    have kC : ∀ b o, hB.get? b = some o → ((hB.push (seqObj "tuple" its.toArray 0)).push (seqObj "list" #[] 0)).get? b = some o := fun b o e => Heap.get?_push_of_some _ (Heap.get?_push_of_some _ e)
    have hkS : ((hB.push (seqObj "tuple" its.toArray 0)).push (seqObj "list" #[] 0)).get? (s.heap.objs.size + 3) = some (seqObj "list" #[] 0) := by rw [← hsT]; exact Heap.get?_push_size _ rfl
    show wpAny _ _ (ksk_rest (s.heap.objs.size + 1) (.ref f) b its.toArray e1 (.ref (hB.push (seqObj "tuple" its.toArray 0)).objs.size)) _ _ { s with heap := (hB.push (seqObj "tuple" its.toArray 0)).push (seqObj "list" #[] 0) }
    rw [hsT]
    generalize (hB.push (seqObj "tuple" its.toArray 0)).push (seqObj "list" #[] 0) = hC at kC hkS ⊢
    have hoD := kC _ _ ho1
    have kD : ∀ b o, s.heap.get? b = some o → hC.get? b = some o := fun b o e => kC b o (kB b o e)
    clear kC kB s1 ho1 hoL keep hsA hsB hsT hsz
    have szs := I.sz
    have ltL : @LT.lt Nat _ X.env.locals s.heap.objs.size := I.lt
    have fD : H (s.heap.objs.size + 1) = none := I.hok.fresh (by omega)
    have fK : H (s.heap.objs.size + 3) = none := I.hok.fresh (by omega)
    have nfD : s.heap.objs.size + 1 ∉ frs X.stack := fun z => absurd (frs_lt I z) (anl (by omega))
    have nfK : s.heap.objs.size + 3 ∉ frs X.stack := fun z => absurd (frs_lt I z) (anl (by omega))
    have cl : ∀ x c, X.env.cells.lookup x = some c → @LT.lt Nat _ c s.heap.objs.size := fun x c e => by
      obtain ⟨v, o, ho, _⟩ := I.cell x c e
      exact Heap.lt_size ho
    have pl' : ∀ p ∈ X.pn ++ pins, @LT.lt Nat _ p.1 s.heap.objs.size := fun p hp => Heap.lt_size (I.pin p hp).1
    have hch : ∀ n : Nat, 1 ≤ n → (s.heap.objs.size + n ≠ X.env.locals) ∧ (∀ x c, X.env.cells.lookup x = some c → c ≠ s.heap.objs.size + n) ∧ ∀ p ∈ X.pn ++ pins, p.1 ≠ s.heap.objs.size + n := fun n hn => ⟨ane (by omega), fun x c e => (by have := cl x c e; exact ane (by omega)), fun p hp => (by have := pl' p hp; exact ane (by omega))⟩
    have I0 : Inv X pins σ H { s with heap := hC } := I.kept (t' := s.toks) kD
    unfold ksk_rest
    refine wpAny_bind (wpAny_rule ?_)
    first
      | rw [List.forIn_toArray]
      | (rw [← Array.forIn_toList]; simp only [List.toList_toArray])
      | rw [← Array.forIn_toList]
    refine wpAny_bind (ksk_fold (fun i s' => ∃ (Hi : Hp) (kA : Array Value) (e : Nat), Inv X pins σ Hi s' ∧ Same H Hi ∧ s'.heap.get? (s.heap.objs.size + 1) = some (seqObj "list" #[] e1) ∧ Hi (s.heap.objs.size + 1) = none ∧ s'.heap.get? (s.heap.objs.size + 3) = some (seqObj "list" kA e) ∧ Hi (s.heap.objs.size + 3) = none ∧ IntsAre kA.toList (kz.take i) ∧ s'.heap.get? f = some fo ∧ Hi f = none) its 0 _
      ⟨H, #[], 0, I0, Same.refl _, hoD, fD, hkS, fK, by simpa using IntsAre.nil, kD _ _ hf, hfn⟩ ?step ?done)
    case step =>
      rintro j x s' hx ⟨Hi, kA, e, Ii, sm, hD, nD, hK, nK, hk, hfo, nf⟩
      simp only [Nat.zero_add] at hk ⊢
      have hj : j < its.length := (List.getElem?_eq_some_iff.mp hx).1
      obtain ⟨k, hkj⟩ : ∃ k, kz[j]? = some k := ⟨_, List.getElem?_eq_getElem (by omega)⟩
      obtain ⟨v, hv⟩ : ∃ v, vs[j]? = some v := ⟨_, List.getElem?_eq_getElem (by omega)⟩
      obtain ⟨u, hu, ru⟩ := r.get hv
      rw [hx] at hu
      cases hu
      have hz' : kA.size ≤ its.length := by
        have h1 := hk.length
        rw [Array.length_toList, List.length_take] at h1
        omega
      refine wpAny_bind (wpAny_attempt (wpAny_mono (turn j v x k hv ru hkj Hi s' Ii sm hfo nf) (fun u' s'' he => ?_) fun _ _ hF => hF.elim))
      obtain ⟨y, H2, os, bare, un, hok, ry, rfl, sm2⟩ := he
      obtain ⟨t2, rfl⟩ := ry
      try dsimp only
      have I2 : Inv X pins σ H2 s'' := Ii.call' (ch := []) os un hok bare (fun b z => absurd z (by simp))
      have hD2 := un.keep _ _ hD nD nfD (by simp)
      have hK2 := un.keep _ _ hK nK nfK (by simp)
      have hf2 := un.keep _ _ hfo nf hfs (by simp)
      have nD2 := un.free _ _ hD nD (by simp)
      have nK2 := un.free _ _ hK nK (by simp)
      have nf2 := un.free _ _ hfo nf (by simp)
      have sB := Heap.SameBut.update s''.heap (s.heap.objs.size + 3) (Obj.mapSeq (·.push (.int k t2)))
      obtain ⟨c2, hc2⟩ : ∃ c2, (s''.heap.update (s.heap.objs.size + 3) (Obj.mapSeq (·.push (.int k t2)))).get? (s.heap.objs.size + 3) = some (seqObj "list" (kA.push (.int k t2)) c2) := ⟨_, get?_update_seq hK2 (·.push (.int k t2))⟩
      have ek : kz.take (j + 1) = kz.take j ++ [k] := by rw [List.take_add_one, hkj]; simp
      have ea : (kA.push (Value.int k t2)).toList = kA.toList ++ [Value.int k t2] := by simp
      refine wpAny_bind (listUpdate_at hK2 rfl ?_ (by rw [sizeLine_eq]; omega) (Nat.le_trans (Nat.le_of_eq (Array.size_push ..)) (by rw [sizeLine_eq]; omega)))
      have h3 := hch 3 (by omega)
      refine wpAny_pure ⟨rfl, H2, kA.push (.int k t2), c2, I2.poke (tk := s''.toks) (by omega) h3.1 h3.2.1 h3.2.2 nK2 sB, sm.trans sm2, (sB.2 _ (ane (by omega))).trans hD2, nD2, hc2, nK2, by rw [ea, ek]; exact ksk_snoc hk, (sB.2 _ ?_).trans hf2, nf2⟩
      have : @LT.lt Nat _ f s.heap.objs.size := Heap.lt_size hf
      exact ane (by omega)
    case done =>
      rintro s' ⟨Hi, kA, e, Ii, sm, hD, nD, hK, nK, hk, hfo, nf⟩
      have hk' : IntsAre kA.toList kz := by
        have e3 : kz.take (0 + its.length) = kz := List.take_of_length_le (by omega)
        rw [e3] at hk
        exact hk
      try dsimp only
      refine wpAny_bind (listItems_at hK rfl ?_)
      obtain ⟨m, F0⟩ := Ii.fr
      have b0 : ∀ n : Nat, 1 ≤ n → X.base.get? (s.heap.objs.size + n) = none := fun n hn => Heap.get?_none_of_le (by have := I.ok.bsz; omega)
      have N0 : News X.base X.env.locals s'.heap (((allNews X.base s'.heap X.env.locals).filter fun p => decide (p.1 ≠ s.heap.objs.size + 3 ∧ p.1 ≠ s.heap.objs.size + 1)) ++ [(s.heap.objs.size + 3, seqObj "list" kA e), (s.heap.objs.size + 1, seqObj "list" #[] e1)]) := fun p hp => by
        rcases List.mem_append.mp hp with hp | hp
        · exact news_all p (List.mem_filter.mp hp).1
        · rcases List.mem_cons.mp hp with rfl | hp
          · exact ⟨hK, (hch 3 (by omega)).1, b0 3 (by omega)⟩
          · rw [List.mem_singleton.mp hp]
            exact ⟨hD, (hch 1 (by omega)).1, b0 1 (by omega)⟩
      refine ksk_end_ F0 N0 (ane (by omega)) (fun p hp => (of_decide_eq_true (List.mem_filter.mp hp).2).1) (fun p hp => (of_decide_eq_true (List.mem_filter.mp hp).2).2) hk' (by omega) (by omega) fun h3 tk3 out c F3 N3 k3 => ⟨_, rfl, ?_⟩
      obtain ⟨ps, pp, po, pw⟩ := k3
      obtain ⟨qs, qp, qr⟩ := perm_paired pp (paired_zip (kz := kz) r)
      have keep : ∀ b o, b ≠ X.env.locals → b ≠ s.heap.objs.size + 3 → b ≠ s.heap.objs.size + 1 → s'.heap.get? b = some o → h3.get? b = some o := fun b o nb n3 n1 e => by
        cases q : X.base.get? b with
        | some u =>
          have := Ii.bk b u q
          rw [e] at this; cases this
          exact F3.keep b _ q
        | none => exact (N3 (b, o) (List.mem_cons_of_mem _ (List.mem_filter.mpr ⟨mem_allNews nb q e, decide_eq_true ⟨n3, n1⟩⟩))).1
      have oD : h3.get? (s.heap.objs.size + 1) = some (seqObj "list" out c) := (N3 _ (List.mem_cons_self ..)).1
      have va : Vals (qs.map (·.2)) out.toList := by
        rw [po]
        have : ∀ {qs : List (Int × V)} {ps : List (Int × Value)}, Paired (fun (p : Int × V) (q : Int × Value) => p.1 = q.1 ∧ RelV p.2 q.2) qs ps → Vals (qs.map (·.2)) (ps.map Prod.snd) := fun {qs ps} h => by
          induction h with
          | nil => exact .nil
          | cons h1 _ ih => exact .cons h1.2 ih
        exact this qr
      have qw : qs.Pairwise fun p q => if b then q.1 ≤ p.1 else p.1 ≤ q.1 := by
        have em : qs.map (·.1) = ps.map (·.1) := by
          clear pw po pp qp va
          induction qr with
          | nil => rfl
          | cons h1 _ ih => rw [List.map_cons, List.map_cons, ih, h1.1]
        have w1 : (ps.map (·.1)).Pairwise fun x y : Int => if b then y ≤ x else x ≤ y := List.pairwise_map.mpr pw
        rw [← em] at w1
        exact List.pairwise_map.mp w1
      have ql : qs.length ≤ 1000 := by rw [qp.length_eq, List.length_zip]; omega
      have nL : ∀ b u, Hi b = some u → b ≠ X.env.locals := fun b u e => ne_of_none e Ii.free
      have same : ∀ b u, Hi b = some u → upd Hi (s.heap.objs.size + 1) (.lst (qs.map (·.2))) b = some u := fun b u e => by rw [upd_ne (ne_of_none e nD)]; exact e
      refine wpAny_pure ⟨_, rfl, .ref (s.heap.objs.size + 1), upd Hi (s.heap.objs.size + 1) (.lst (qs.map (·.2))), ?_, rfl, q _ qs _ qp qw (fun b o e => same b o (sm b o e)) fD upd_same⟩
      refine Ii.step (g' := s'.gens) (d' := s'.drawn) (ch := [s.heap.objs.size + 3, s.heap.objs.size + 1]) (fun b hb => ?_) (fun b o nb _ nc e _ => keep b o nb (fun z => nc (by simp [z])) (fun z => nc (by simp [z])) e) (fun b o nb _ nc e _ => ⟨o.slots, keep b o nb (fun z => nc (by simp [z])) (fun z => nc (by simp [z])) e⟩)
        (fun b o nc _ n => by rw [upd_ne (fun z => nc (by simp [z]))]; exact n) (fun b o nc e => ?_) (fun b xs e => same b _ e) (fun b o u e => same b _ e) (fun b qs' e => ⟨#[], by rw [same b _ e]; simp⟩) (fun m' hm => ?_) (fun b u e => ?_) Ii.bare
      · rcases List.mem_cons.mp hb with rfl | hb
        · exact ⟨.inr (by omega), hch 3 (by omega)⟩
        · rw [List.mem_singleton.mp hb]
          exact ⟨.inr (by omega), hch 1 (by omega)⟩
      · by_cases hbL : b = X.env.locals
        · subst hbL
          obtain ⟨o', _, _, ho', _⟩ := F3.ns
          exact ⟨o', ho'⟩
        · exact ⟨o, keep b o hbL (fun z => nc (by simp [z])) (fun z => nc (by simp [z])) e⟩
      · have e1 := hm.eq_nsMap
        have e2 := F0.ns.eq_nsMap
        rw [e1, ← e2]
        exact F3.ns
      · by_cases hb : b = s.heap.objs.size + 1
        · subst hb
          rw [upd_same] at e; cases e
          refine lst_ok (its := out.toList) (e := c) va (by rw [List.length_map]; exact sz1000 ql) ?_
          rw [Array.toArray_toList]
          exact oD
        · rw [upd_ne hb] at e
          refine (Ii.hok b u e).stay (fun d v hd q => keep d v ?_ ?_ ?_ q) (fun d q => same d _ q) fun d xs q => same d _ q
          · rcases hd with z | z
            · rw [z]; exact nL b u e
            · exact nL d _ z
          · rcases hd with z | z
            · rw [z]; exact ne_of_none e nK
            · exact ne_of_none z nK
          · rcases hd with z | z
            · rw [z]; exact hb
            · exact ne_of_none z nD
end
/-- sorted(xs, key=lambda x: .., reverse=b): the name at i is seen in the lambda -/
def tSortC (K : PySem.W.Frag) (P : Addr) (qual : Str) (lpos : Pos) (b : Bool) (i : Nat) (te tb : TE) : TE := fun σ H Q => te σ H fun x H1 => ∃ (a : Addr) (vs : List V) (kz : List Int) (w : V), x = .ref a ∧ SqL K H1 a vs ∧ vs.length < 64 ∧ kz.length = vs.length ∧ LamT H1 P qual lpos ∧ σ[i]? = some (some w) ∧
  (∀ (j : Nat) (v : V) (k : Int), vs[j]? = some v → kz[j]? = some k → ∀ H2, SameB P H1 H2 → tb [some v, some w] H2 fun y H3 => y = .int k ∧ Same H2 H3) ∧
  ∀ (p : Addr) (ps : List (Int × V)) (H2 : Hp), ps.Perm (kz.zip vs) → (ps.Pairwise fun p q => if b then q.1 ≤ p.1 else p.1 ≤ q.1) → SameB P H1 H2 → LamT H2 P qual lpos → H1 p = none → H2 p = some (.lst (ps.map (·.2))) → Q (.ref p) H2
end L2

/-! ### sorted(xs, key=lambda x: ..): one name of the def is seen in the lambda -/
namespace L2
open PySem PySem.Spec PySem.Calls PyProof.Rows
theorem pe_sortC1 {X : Cx} {e : Expr} {te tb : TE} {p pos kp lpos : Pos} {n i : Nat} {x y qual : Str} {params : Arguments} {body : Expr} {scope : Scope} {c P cc : Addr} (hr : Room (n + 1) X.A) (hg : Gl X "sorted") (hm : X.mg "sorted" = none) (he : PE X e te) (B : LamB X.mg X.base c P)
    (hcode : X.env.code = .ref c) (hq : X.env.qual ++ "<lambda>" = qual) (hcl : closureFor scope X.env = pure [(y, cc)]) (hdef : defaultsOf params X.env = ([], []))
    (hb : ∀ (pm cv ctv u : Value), bindArgs (PySem.W.kla_fn "<lambda>" qual params body scope [(y, cc)] pm cv ctv) ⟨[u], []⟩ = pure [(x, u)])
    (S : LmS scope x y) (xy : x ≠ y) (hN : X.N[i]? = some y) (hkc : X.env.kindOf y = some .cell) (hcc : X.env.cells.lookup y = some cc)
    (hp : ∀ f cd s H, PE (lmX X [x, y] qual scope [(y, cc)] f cd X.A.in1.in1 s H) body tb)
    (h1 : backTo pos (starEach [e] X.env) = (false, eval e X.env) :: backTo pos (starEach [] X.env) := by rfl) (h2 : (backTo pos (starEach [e] X.env)).any (·.1) = false := by rfl) :
    PE X (.Call (.Name "sorted" p) [e] [⟨some "key", .Lambda params body scope lpos, kp⟩] pos) (tSortC X.K P qual lpos false i te tb) := by
  intro pins s σ H Q I h
  refine wpAny_Call_Name_kw (ld_blt I hg hm boot_sorted (callWith_kw ?_ h1 h2 rfl rfl))
  rw [h1]
  refine Calls.spliced_cons (thn (he pins s σ H _ I h) fun v s1 ⟨x1, H1, I1, r1, a, vs, kz, wv, ex, hl, h64, hlen, lt, hsi, hkey, q⟩ => ?_)
  subst ex
  cases r1
  refine Calls.spliced_nil ?_
  -- behind the lambda
  have go : ∀ (f c' : Addr) (ctv : Value) (oc : Obj) (u : HO) (cvs : Array Value) (t : Tok) (h' : Heap) (tk : Nat) (H2 : Hp), f = h'.objs.size → s1.heap.objs.size ≤ h'.objs.size →
      Inv X pins σ H2 { s1 with heap := h'.push (PySem.W.kla_obj "<lambda>" qual params body scope [(y, cc)] ((X.mg "__name__").getD .none) c' ctv), toks := tk } →
      SameB P H1 H2 → H2 P = some (.tbl #[rawInt lpos.line, rawInt lpos.col, .ref c']) → H2 c' = some (.frz oc u) → oc.data = .fields cvs → cvs[1]? = some (.str qual t) → (∀ b, H2 b = none → H1 b = none) → H2 f = none →
      wpAny (model X.prog X.w) X.A (evalAll ((backToKw pos (keywordEach [] X.env)).map (·.2)))
        (fun kvs s₂ => wpAny (model X.prog X.w) X.A (call (.builtin "sorted") [.ref a] (((backToKw pos (keywordEach [⟨some "key", .Lambda params body scope lpos, kp⟩] X.env)).filterMap (·.1)).zip (.ref f :: kvs))) (EP X pins σ Q) X.xe s₂) X.xe
        { s1 with heap := h'.push (PySem.W.kla_obj "<lambda>" qual params body scope [(y, cc)] ((X.mg "__name__").getD .none) c' ctv), toks := tk } := by
    intro f c' ctv oc u cvs t h' tk H2 ef hge I2 sb hP hc' hoc hvs hnn hfn
    have hfo : (h'.push (PySem.W.kla_obj "<lambda>" qual params body scope [(y, cc)] ((X.mg "__name__").getD .none) c' ctv)).get? f = some (PySem.W.kla_obj "<lambda>" qual params body scope [(y, cc)] ((X.mg "__name__").getD .none) c' ctv) := by rw [ef]; exact Heap.get?_push_size _ rfl
    have hfs : f ∉ frs X.stack := fun z => absurd (frs_lt I1 z) (anl (by rw [ef]; exact Nat.not_lt.mpr hge))
    have hfL : f ≠ X.env.locals := fun z => by
      have : @LT.lt Nat _ X.env.locals s1.heap.objs.size := I1.lt
      rw [← z, ef] at this
      exact absurd this (anl (Nat.not_lt.mpr hge))
    have hffs : f ∉ X.fs := fun z => by
      obtain ⟨_, o, e, _⟩ := I1.funs.mem z
      have : @LT.lt Nat _ f s1.heap.objs.size := Heap.lt_size e
      rw [ef] at this
      exact absurd this (anl (Nat.not_lt.mpr hge))
    have I3 : Inv X ((f, PySem.W.kla_obj "<lambda>" qual params body scope [(y, cc)] ((X.mg "__name__").getD .none) c' ctv) :: pins) σ H2 { s1 with heap := h'.push (PySem.W.kla_obj "<lambda>" qual params body scope [(y, cc)] ((X.mg "__name__").getD .none) c' ctv), toks := tk } :=
      I2.pins_of fun p hp' => by
        rcases List.mem_cons.mp hp' with rfl | hp'
        · exact ⟨hfo, hfn, hfL, hffs, fun v z => by cases z⟩
        · exact I2.pin p (List.mem_append_right _ hp')
    refine kws_nil ?_
    have hl2 : SqL X.K H2 a vs := by
      rcases hl with hl | hl
      · rcases hl with hl | ⟨o, hl⟩
        · exact .inl (.inl (sb.lst lt hl))
        · exact .inl (.inr ⟨o, sb.frz lt hl⟩)
      · exact .inr hl
    have pin := I3.pin (f, PySem.W.kla_obj "<lambda>" qual params body scope [(y, cc)] ((X.mg "__name__").getD .none) c' ctv) (List.mem_append_right _ (List.mem_cons_self ..))
    refine wpAny_mono (inv_sorted (Q := Q) (b := false) (kz := kz) I3 hl2 hlen h64 pin.1 pin.2.1 hfs (ksk_s1 _ _) (fun _ => ksk_l1 _ _) (fun _ => ksk_t1 _ _) (fun jj vv uu k hv ru hk Ha sa Ia sma hfa hna => ?_) fun D ps H' pm pw sm hD hD' => ?_) (fun ur s' ⟨vr, Hr, Ir, rr, qr⟩ => ⟨vr, Hr, Ir.pins_of fun p hp' => Ir.pin p (List.mem_append_right _ (List.mem_cons_of_mem _ hp')), rr, qr⟩) fun _ _ z => z
    · obtain ⟨m, hns, hlk⟩ := Ia.loc
      obtain ⟨uy, ry, lk⟩ := hlk i y wv hN hsi (.inr (.inl hkc))
      have ic : sa.heap.IsCell cc (some uy) := by
        rcases lk with ⟨k1, _⟩ | ⟨_, c2, e2, ic⟩
        · rw [hkc] at k1; cases k1
        · rw [hcc] at e2; cases e2; exact ic
      refine lam_callC Ia (A := X.A.in1.in1) Ia.ok.frames hr.hd (by have := hr.dp; show X.A.depth < _; omega) ru ry S xy hfa ⟨c', oc, cvs, t, rfl, (Ia.hok _ _ (sma _ _ hc')).1, hoc, hvs⟩ (hb _ _ _ _) ic (Ia.freeC y cc hcc) (hp f (.ref c') sa Ha) ?_
      exact hkey jj vv k hv hk Ha (sb.trans sma.b)
    · exact q D ps H' pm pw (sb.trans sm.b) (.inr ⟨c', oc, cvs, t, u, sm _ _ hP, sm _ _ hc', hoc, hvs⟩) (hnn _ hD) hD'
  have bmS : s1.heap.BuiltinsAt X.mg P := by
    obtain ⟨bm, o, a1, a2, a3, a4, a5, a6⟩ := B.bm
    exact ⟨bm, o, a1, a2, a3, a4, I1.bk _ _ a5, a6⟩
  refine kws_cons (PySem.W.kla_eval hdef ?_)
  rw [hq]
  rcases lt with lt0 | ⟨c', oc, cvs, t, u, hP, hc', hoc, hvs⟩
  · refine PySem.W.kla_makeFunction (mg := X.mg) hcl I1.ok.glob (I1.mod.glob.keeps I1.bk) hcode (B.code.keeps I1.bk) (show s1.heap.get? P = some (PySem.W.tabObj #[]) from I1.hok _ _ lt0) trivial rfl B.gne bmS fun c' ctv h' tk hx hge hlt hrec htb => ?_
    obtain ⟨c2, oc, cvs, t, e2, hoc', hdv, hv⟩ := hrec
    cases e2
    have hcP : c' ≠ P := fun z => by
      rw [z, htb] at hoc'
      cases hoc'
      have y := I1.hok.lt lt0
      exact absurd (Nat.lt_of_lt_of_le y (z ▸ hge)) (Nat.lt_irrefl _)
    have hcn : H1 c' = none := I1.hok.fresh hge
    have hge2 : s1.heap.objs.size ≤ h'.objs.size := Nat.le_trans hge (Nat.le_of_lt hlt)
    refine go h'.objs.size c' ctv oc (.own 0) cvs t h' tk (upd (upd H1 P (.tbl (#[] ++ #[rawInt lpos.line, rawInt lpos.col, .ref c']))) c' (.frz oc (.own 0))) rfl hge2 ?_ (fun b o n e => ?_) ?_ upd_same hdv hv (fun b e => ?_) ?_
    · refine I1.lamNew lt0 (fun b o n e => Heap.get?_push_of_some _ (hx b o n e)) hge (Heap.get?_push_of_some _ hoc') (Heap.get?_push_of_some _ htb)
    · rw [upd_ne (ne_of_none e hcn), upd_ne n]; exact e
    · rw [upd_ne hcP.symm, upd_same, Array.empty_append]
    · by_cases b1 : b = c'
      · rw [b1, upd_same] at e; cases e
      · rw [upd_ne b1] at e
        by_cases b2 : b = P
        · rw [b2, upd_same] at e; cases e
        · rw [upd_ne b2] at e; exact e
    · have n1 : (h'.objs.size : Addr) ≠ c' := fun z => absurd (z ▸ hlt) (Nat.lt_irrefl _)
      have n2 : (h'.objs.size : Addr) ≠ P := fun z => by
        have := Heap.lt_size htb
        rw [← z] at this
        exact absurd this (Nat.lt_irrefl _)
      rw [upd_ne n1, upd_ne n2]
      exact I1.hok.fresh hge2
  · refine PySem.W.kla_makeFunctionHit (mg := X.mg) (cv := .ref c') hcl I1.ok.glob (I1.mod.glob.keeps I1.bk) hcode (B.code.keeps I1.bk) (show s1.heap.get? P = some (PySem.W.tabObj #[rawInt lpos.line, rawInt lpos.col, .ref c']) from I1.hok _ _ hP) (by simp [TriplesOk, rawInt]) (by simp [codeAmong, rawInt]) bmS fun ctv h' tk hx hge => ?_
    exact go h'.objs.size c' ctv oc u cvs t h' tk H1 rfl hge (I1.kept (fun b o e => Heap.get?_push_of_some _ (hx b o e))) (fun _ _ _ e => e) hP hc' hoc hvs (fun _ e => e) (I1.hok.fresh hge)
end L2

/-! ### dicts whose keys are tuples of ints and texts, constants among them -/
namespace LT
open PySem PySem.Spec PyProof.Rows L2
/-- the key k lies at c -/
def KeyAt (K : PySem.W.Frag) (H : Hp) (k : List Key) (c : Addr) : Prop := SqZ K H c (k.map kV)
theorem KeyAt.keep {K : PySem.W.Frag} {H H' : Hp} {k : List Key} {c : Addr} (h : KeyAt K H k c) (t : ∀ b ys, H b = some (.tup ys) → H' b = some (.tup ys)) : KeyAt K H' k c := LK.sz_keep h t
abbrev KN (K : PySem.W.Frag) (H : Hp) : List (List Key × V) → List (List Key × Addr × Value) → Prop := Paired fun p q => p.1 = q.1 ∧ KeyAt K H p.1 q.2.1 ∧ RelV p.2 q.2.2
theorem KN.val {K : PySem.W.Frag} {H : Hp} {kvs : List (List Key × V)} {xs : List (List Key × Addr × Value)} (r : KN K H kvs xs) (k : List Key) : RelO (valV kvs k) ((atKey xs k).map (·.2)) := by
  induction r with
  | nil => exact True.intro
  | @cons p q ps qs h t ih =>
    obtain ⟨h1, _, h2⟩ := h
    by_cases e : p.1 = k
    · have e' : q.1 = k := h1.symm.trans e
      have b : atKey (q :: qs) k = some q.2 := by simp [atKey, List.find?_cons, e']
      rw [valV_pos e, b]; exact h2
    · have e' : ¬ q.1 = k := fun z => e (h1.trans z)
      have b : atKey (q :: qs) k = atKey qs k := by simp [atKey, List.find?_cons, e']
      rw [valV_neg e, b]; exact ih
theorem KN.repl {K : PySem.W.Frag} {H : Hp} {kvs : List (List Key × V)} {xs : List (List Key × Addr × Value)} (r : KN K H kvs xs) (k : List Key) {y : V} {u : Value} (ry : RelV y u) :
    KN K H (kvs.map fun kv => if kv.1 = k then (kv.1, y) else kv) (xs.map (putAt k u)) := by
  induction r with
  | nil => exact .nil
  | @cons p q ps qs h t ih =>
    rw [List.map_cons, List.map_cons]
    refine .cons ?_ ih
    obtain ⟨h1, h2, h3⟩ := h
    unfold putAt
    by_cases e : p.1 = k
    · rw [if_pos e, if_pos (h1.symm.trans e)]; exact ⟨h1, h2, ry⟩
    · rw [if_neg e, if_neg (fun z => e (h1.trans z))]; exact ⟨h1, h2, h3⟩
theorem KN.put {K : PySem.W.Frag} {H : Hp} {kvs : List (List Key × V)} {xs : List (List Key × Addr × Value)} (r : KN K H kvs xs) (k : List Key) {b : Addr} {y : V} {u : Value} (hb : KeyAt K H k b) (ry : RelV y u) : KN K H (putK kvs k y) (storedH xs k b u) := by
  have e : (kvs.any fun kv => decide (kv.1 = k)) = (atKey xs k).isSome := by
    rw [valV_any, (r.val k).isSome_eq, Option.isSome_map]
  unfold putK storedH
  rw [e]
  by_cases q : (atKey xs k).isSome = true
  · rw [if_pos q, if_pos q]; exact r.repl k ry
  · rw [if_neg q, if_neg q]; exact Paired.snoc r ⟨rfl, hb, ry⟩
theorem KN.keeps {K : PySem.W.Frag} {H H' : Hp} {kvs : List (List Key × V)} {xs : List (List Key × Addr × Value)} (r : KN K H kvs xs) (ht : ∀ b ys, H b = some (.tup ys) → H' b = some (.tup ys)) : KN K H' kvs xs :=
  Paired.mapP r fun _ _ z => ⟨z.1, z.2.1.keep ht, z.2.2⟩
def DObj (P : Program) (w : World) (a : Addr) (xs : List (List Key × Addr × Value)) (h : Heap) : Prop := ∃ o es ep, h.get? a = some o ∧ o.ExactDict ∧ o.data = .dict es ep ∧ es.toList = xs.map (entryOfKey (tupleKind (mixKind P w)))
theorem dobj_ok {P : Program} {w : World} {H : Hp} {h : Heap} {a : Addr} {xs : List (List Key × Addr × Value)} (d : DObj P w a xs h) : ObjOk P w H h a (.ext (DObj P w a xs)) := by
  refine ⟨d, let ⟨o, _, _, e, _⟩ := d; ⟨o, e⟩, fun h1 h2 k s => ?_⟩
  obtain ⟨o, es, ep, e, r⟩ := k
  exact ⟨o, es, ep, s _ e, r⟩
/-- a dict with such keys -/
structure ND (P : Program) (w : World) (K : PySem.W.Frag) (H : Hp) (a : Addr) (kvs : List (List Key × V)) : Prop where
  ex : ∃ xs, H a = some (.ext (DObj P w a xs)) ∧ KN K H kvs xs ∧ (xs.map (·.1)).Nodup
  z : kvs.length ≤ sizeLine
  ne : (a == sysModules) = false
section
variable {P : Program} {w : World} {K : PySem.W.Frag} {H H' : Hp} {h : Heap} {a : Addr} {kvs : List (List Key × V)}
theorem ND.keep (n : ND P w K H a kvs) (ha : ∀ o, H a = some o → H' a = some o) (ht : ∀ b ys, H b = some (.tup ys) → H' b = some (.tup ys)) : ND P w K H' a kvs :=
  let ⟨xs, e, r, d⟩ := n.ex; ⟨⟨xs, ha _ e, r.keeps ht, d⟩, n.z, n.ne⟩
theorem ND.same (n : ND P w K H a kvs) (s : Same H H') : ND P w K H' a kvs := n.keep (fun o => s _ o) fun b ys => s _ _
theorem keyN_of {X : Cx} {pins : List (Addr × Obj)} {σ : L2.St} {H : Hp} {s : Shared} {k : List Key} {c : Addr} (I : Inv X pins σ H s) (q : KeyAt X.K H k c) : (tupleKind (mixKind X.prog X.w)).is s.heap k c := by
  obtain ⟨its, r, ⟨o, e1, e2, n, e3⟩, _⟩ := I.tuple q.sq
  exact ⟨o, its.toArray, n, e1, e2, e3, by simpa using items_are r⟩
theorem nd_rd {X : Cx} {pins : List (Addr × Obj)} {σ : L2.St} {H : Hp} {s : Shared} (I : Inv X pins σ H s) (n : ND X.prog X.w X.K H a kvs) : ∃ xs, H a = some (.ext (DObj X.prog X.w a xs)) ∧ KN X.K H kvs xs ∧ s.heap.DictOfH (tupleKind (mixKind X.prog X.w)) a xs := by
  obtain ⟨xs, e, r, d⟩ := n.ex
  obtain ⟨⟨o, es, ep, h1, h2, h3, h4⟩, _⟩ := (show ObjOk X.prog X.w H s.heap a (.ext (DObj X.prog X.w a xs)) from I.hok a _ e)
  refine ⟨xs, e, r, o, es, ep, h1, h2, h3, h4, ?_, d⟩
  have all : ∀ {l : List (List Key × V)} {m : List (List Key × Addr × Value)}, KN X.K H l m → ∀ x ∈ m, (tupleKind (mixKind X.prog X.w)).is s.heap x.1 x.2.1 := by
    intro l m q
    induction q with
    | nil => intro x hx; exact nomatch hx
    | @cons p q ps qs hq t ih =>
      intro x hx
      rcases List.mem_cons.mp hx with e | hx
      · subst e
        exact keyN_of I (by rw [← hq.1]; exact hq.2.1)
      · exact ih x hx
  exact all r
end
theorem ND.len {P : Program} {w : World} {K : PySem.W.Frag} {H : Hp} {a : Addr} {kvs : List (List Key × V)} {k : List Key} {v : V} (n : ND P w K H a kvs) (l : kvs.length < sizeLine) : (putK kvs k v).length ≤ sizeLine := by have := length_putK kvs k v; omega
section
variable {X : Cx} {pins : List (Addr × Obj)} {σ : L2.St} {H : Hp} {s : Shared} {a : Addr} {y v : V} {u r : Value} {o : Option V} {A : Around} {E : Value → Shared → Prop}
/-- the dict's object behind a store -/
theorem nd_put {h' : Heap} {kvs : List (List Key × V)} {k : List Key} {b : Addr} {xs : List (List Key × Addr × Value)} {tk : Nat} (I : Inv X pins σ H s) (n : ND X.prog X.w X.K H a kvs) (e : H a = some (.ext (DObj X.prog X.w a xs))) (rel : KN X.K H kvs xs) (eb : KeyAt X.K H k b) (rv : RelV v r) (l : kvs.length < sizeLine)
    (dd' : h'.DictOfH (tupleKind (mixKind X.prog X.w)) a (storedH xs k b r)) (hs : Heap.SameBut a s.heap h') :
    ∃ o, ND X.prog X.w X.K (upd H a o) a (putK kvs k v) ∧ Inv X pins σ (upd H a o) { s with heap := h', toks := tk } := by
  obtain ⟨q, es, ep, hq, h2, h3, h4, _, h5⟩ := dd'
  have ht : ∀ c ys, H c = some (.tup ys) → upd H a (.ext (DObj X.prog X.w a (storedH xs k b r))) c = some (.tup ys) := fun c ys ec => by
    rw [upd_ne (ne_of ec e (fun z => nomatch z))]
    exact ec
  refine ⟨.ext (DObj X.prog X.w a (storedH xs k b r)), ⟨⟨_, upd_same, (rel.put k eb rv).keeps ht, h5⟩, n.len l, n.ne⟩, ?_⟩
  exact d_write I (by rw [e]; exact True.intro) hs ⟨q, hq⟩ (dobj_ok ⟨q, es, ep, hq, h2, h3, h4⟩)
theorem d_set {kvs : List (List Key × V)} {k : List Key} {b : Addr} {Q : Unit → Shared → Prop} (hu : A.units + 1 < cLine) (I : Inv X pins σ H s) (n : ND X.prog X.w X.K H a kvs) (eb : KeyAt X.K H k b) (l : kvs.length < sizeLine) (rv : RelV v r) (h : ∀ o s', ND X.prog X.w X.K (upd H a o) a (putK kvs k v) → Inv X pins σ (upd H a o) s' → Q () s') : wpAny (model X.prog X.w) A (setItem (.ref a) (.ref b) r) Q E s := by
  obtain ⟨xs, e, rel, dd⟩ := nd_rd I n
  have hz : xs.length ≤ sizeLine := by rw [← Paired.length rel]; exact n.z
  refine wpAny_setItem_heap (hsz := hz) (tupleKind_room_in1 hu) (keyN_of I eb) dd fun h' dd' hs => ?_
  obtain ⟨o, n', I'⟩ := nd_put (tk := s.toks + (tupleKind (mixKind X.prog X.w)).draws k) I n e rel eb rv l dd' hs
  exact h o _ n' I'
end
def sPut (P : Program) (w : World) (K : PySem.W.Frag) (td ty tv : TE) : TS := fun D σ H => tv σ H fun v H1 => td σ H1 fun x H2 => ty σ H2 fun y H3 => ∃ a kvs k b, x = .ref a ∧ y = .ref b ∧ ND P w K H3 a kvs ∧ KeyAt K H3 k b ∧ kvs.length < sizeLine ∧ ∀ o, ND P w K (upd H3 a o) a (putK kvs k v) → D.nx σ (upd H3 a o)
def tNew (P : Program) (w : World) (K : PySem.W.Frag) : TE := fun _ H Q => ∀ p o, H p = none → ND P w K (upd H p o) p [] → Q (.ref p) (upd H p o)
section
variable {X : Cx} {o i e value : Expr} {pos pos' tpos : Pos} {td ty tv tk : TE}
theorem ps_put (hu : X.A.units + 1 < cLine) (ho : PE X o td) (hi : PE X i ty) (hv : PE X value tv) (hs : swapsWith value (some (.Subscript o i pos')) pos.line X.env = pure false) : PS X (.Assign [.Subscript o i pos'] value pos) (sPut X.prog X.w X.K td ty tv) := by
  intro pins s σ H D I h
  refine wpAny_Assign_Subscript (thn (hv pins s σ H _ I h) fun r s1 ⟨v, H1, I1, rv, q1⟩ => thn (ho pins s1 σ H1 _ I1 q1) fun u s2 ⟨x, H2, I2, rx, q2⟩ => thn (hi pins s2 σ H2 _ I2 q2) fun iv s3 ⟨y, H3, I3, ry, a, kvs, k, b, ex, ey, n, eb, l, g⟩ => ?_) hs
  subst ex ey
  obtain rfl : u = Value.ref a := rx
  obtain rfl : iv = Value.ref b := ry
  exact d_set hu I3 n eb l rv fun o s4 n' I4 => ⟨σ, _, I4, g o n'⟩
theorem nd_empty {P : Program} {w : World} {K : PySem.W.Frag} {H : Hp} (h : Heap) (hb : sysModules < h.objs.size) : ObjOk P w (upd H h.objs.size (.ext (DObj P w h.objs.size []))) (h.push { cls := .type "dict", data := .dict #[] }) h.objs.size (.ext (DObj P w h.objs.size [])) ∧ ND P w K (upd H h.objs.size (.ext (DObj P w h.objs.size []))) h.objs.size [] :=
  ⟨dobj_ok ⟨_, #[], 0, Heap.get?_push_size _ rfl, ⟨rfl, rfl, rfl⟩, rfl, rfl⟩, ⟨⟨[], upd_same, .nil, List.nodup_nil⟩, Nat.zero_le _, beq_eq_false_iff_ne.mpr (Ne.symm (Nat.ne_of_lt hb))⟩⟩
theorem pe_new : PE X (.Dict [] [] pos) (tNew X.prog X.w X.K) := fun pins s σ H Q I h => by
  obtain ⟨h1, h2⟩ := nd_empty (P := X.prog) (w := X.w) (K := X.K) (H := H) s.heap I.big
  exact wpAny_Dict_empty ⟨.ref s.heap.objs.size, _, I.laid (a := s.heap.objs.size) (t' := s.toks) (fun _ _ q => Heap.get?_push_of_some _ q) (Nat.le_refl _) h1, rfl, h _ _ (I.hok.fresh (Nat.le_refl _)) h2⟩
end
/-! ### list(d), whatever its keys are -/
def RawD (h : Heap) (d : Addr) (es : Array DictEntry) (ep : Nat) : Prop := ∃ o, h.get? d = some o ∧ o.ExactDict ∧ o.data = .dict es ep
section
variable {prog : Program} {w : World} {A : Around} {E : Value → Shared → Prop} {s : Shared} {d it : Addr} {es : Array DictEntry} {ep i : Nat}
theorem RawD.ty (x : RawD s.heap d es ep) : s.TypeIs (.ref d) "dict" := let ⟨o, h, c, _⟩ := x; ⟨o, h, c.1⟩
theorem RawD.at {h h' : Heap} (x : RawD h d es ep) (e : ∀ o, h.get? d = some o → h'.get? d = some o) : RawD h' d es ep := let ⟨o, ho, r⟩ := x; ⟨o, e _ ho, r⟩
theorem raw_iter {Q : Value → Shared → Prop} (hd : (d == sysModules) = false) (hm : RawD s.heap d es ep) (hQ : Q (.ref s.heap.objs.size) { s with heap := s.heap.push { cls := .type "dict_keyiterator", data := .fields #[.ref d, .int 0 0, .int es.size 0, .int ep 0] } }) : wpAny (model prog w) A (pyIter (.ref d)) Q E s := by
  obtain ⟨o, ho, hc, hdat⟩ := id hm; have hT := hm.ty
  refine wpAny_pyIter_slot hT F.slot_dict_iter (wpAny_call_entry F.slot_dict_iter hT F.entry_dict_iter ?_ (F.args_dict_iter_1 _)); unfold Builtin.«dict.__iter__»; refine wpAny_bind ?_; unfold Builtin.Dict.dictSlotNone; refine wpAny_bind (wpAny_notOrdered_dict hT ?_)
  show wpAny _ _ (pure (Value.ref d)) _ _ s; refine wpAny_pure ?_; show wpAny _ _ (Builtin.Dict.showsAll d >>= _) _ _ s; unfold Builtin.Dict.showsAll; rw [if_neg (by rw [hd]; exact Bool.false_ne_true)]
  refine wpAny_bind (wpAny_pure (wpAny_bind (wpAny_dictEntries ho hdat (wpAny_bind (wpAny_dictEpoch ho hdat (wpAny_bind (wpAny_newObj_type (wpAny_pure ⟨_, rfl, "dict_keyiterator", _, ⟨_, Heap.get?_push_size _ rfl, rfl⟩, F.slot_dict_keyiterator_next.lookup, ?_⟩))))))))
  simpa [rawInt] using hQ
theorem raw_item {e : DictEntry} {Q : Option Value → Shared → Prop} (hit : s.heap.IsKeyIter it d i es.size ep) (hm : RawD s.heap d es ep) (hx : es[i]? = some e) (hQ : ∀ h', h'.IsKeyIter it d (i + 1) es.size ep → Heap.SameBut it s.heap h' → Q (some e.key) { s with heap := h' }) : wpAny (model prog w) A (pyNext (.ref it)) Q E s := by
  obtain ⟨o, ho, hc, hd⟩ := id hit; obtain ⟨od, hod, hcd, hdd⟩ := id hm; obtain ⟨hlt', rfl⟩ := Array.getElem?_eq_some_iff.mp hx
  unfold pyNext; refine wpAny_bind (wpAny_attempt (wpAny_callSpecial?_slot (name := Str.ofString "__next__") hit.typeIs F.slot_dict_keyiterator_next (wpAny_call_entry F.slot_dict_keyiterator_next hit.typeIs F.entry_dict_keyiterator_next ?_ (F.args_dict_keyiterator_next_1 _))))
  refine wpAny_bind (wpAny_pure (wpAny_bind (wpAny_bind ?_))); first | refine wpAny_bind (wpAny_typeNameOfWhole_keyiter hit.typeIs (wpAny_pure ?_)) | refine wpAny_bind (wpAny_typeNameOf_keyiter hit.typeIs (wpAny_pure ?_))
  refine wpAny_bind (wpAny_fieldsOf ho hd ?_); have hown : Builtin.Dict_items.ownsTuple "dict_keyiterator" = false := by decide
  simp only [hown, Bool.false_eq_true, if_false]; show wpAny _ _ (if (Value.ref d == Value.none) = true then _ else _) _ _ s; rw [if_neg (show ¬ ((Value.ref d == Value.none) = true) from Bool.false_ne_true)]
  refine wpAny_bind (wpAny_pure (wpAny_bind (wpAny_dictEntries hod hdd ?_))); rw [if_neg (by simp)]; refine wpAny_bind (wpAny_pure (wpAny_bind (wpAny_dictEpoch hod hdd ?_))); rw [if_neg (by simp)]; refine wpAny_pure ?_
  simp only [show ¬ ((i : Int) < 0) from by omega, if_false, Int.toNat_natCast, Array.getElem?_eq_getElem hlt']; refine wpAny_bind ?_
  first | refine wpAny_bind (wpAny_typeNameOfWhole_keyiter hit.typeIs (wpAny_pure ?_)) | refine wpAny_bind (wpAny_typeNameOf_keyiter hit.typeIs (wpAny_pure ?_))
  refine wpAny_bind (wpAny_isOneOf_keyiter hit.typeIs ?_); show wpAny _ _ (setField (.ref it) 1 (rawInt ((i : Int) + 1)) >>= _) _ _ s; refine wpAny_bind (wpAny_setField ho hd (by simp) ?_)
  have hit' : (s.heap.update it (Obj.mapFields (·.setIfInBounds 1 (rawInt ((i : Int) + 1))))).IsKeyIter it d (i + 1) es.size ep := ⟨_, Heap.get?_update_self _ ho (Obj.isFreed_of_fields (Obj.data_mapFields hd _)), (Obj.cls_mapFields ..).trans hc, by rw [Obj.data_mapFields hd]; simp [rawInt]⟩
  refine wpAny_bind (wpAny_holding (wpAny_bind (wpAny_isOneOf_keyiter (s := { s with heap := s.heap.update it (Obj.mapFields (·.setIfInBounds 1 (rawInt ((i : Int) + 1)))) }) hit'.typeIs ?_))); show wpAny _ _ (pure es[i].key) _ _ _
  exact wpAny_pure (wpAny_pure ⟨_, rfl, wpAny_pure (hQ _ hit' (Heap.SameBut.update ..))⟩)
theorem raw_end {Q : Option Value → Shared → Prop} (hh : A.handled = none) (hit : s.heap.IsKeyIter it d i es.size ep) (hm : RawD s.heap d es ep) (hge : es.size ≤ i) (hQ : ∀ h', Heap.ExtBut it s.heap h' → Q none { s with heap := h' }) : wpAny (model prog w) A (pyNext (.ref it)) Q E s := by
  obtain ⟨o, ho, hc, hd⟩ := id hit; obtain ⟨od, hod, hcd, hdd⟩ := id hm
  unfold pyNext; refine wpAny_bind (wpAny_attempt (wpAny_callSpecial?_slot (name := Str.ofString "__next__") hit.typeIs F.slot_dict_keyiterator_next (wpAny_call_entry F.slot_dict_keyiterator_next hit.typeIs F.entry_dict_keyiterator_next ?_ (F.args_dict_keyiterator_next_1 _))))
  refine wpAny_bind (wpAny_pure (wpAny_bind (wpAny_bind ?_))); first | refine wpAny_bind (wpAny_typeNameOfWhole_keyiter hit.typeIs (wpAny_pure ?_)) | refine wpAny_bind (wpAny_typeNameOf_keyiter hit.typeIs (wpAny_pure ?_))
  refine wpAny_bind (wpAny_fieldsOf ho hd ?_); have hown : Builtin.Dict_items.ownsTuple "dict_keyiterator" = false := by decide
  simp only [hown, Bool.false_eq_true, if_false]; show wpAny _ _ (if (Value.ref d == Value.none) = true then _ else _) _ _ s; rw [if_neg (show ¬ ((Value.ref d == Value.none) = true) from Bool.false_ne_true)]
  refine wpAny_bind (wpAny_pure (wpAny_bind (wpAny_dictEntries hod hdd ?_))); rw [if_neg (by simp)]; refine wpAny_bind (wpAny_pure (wpAny_bind (wpAny_dictEpoch hod hdd ?_))); rw [if_neg (by simp)]; refine wpAny_pure ?_
  simp only [show ¬ ((i : Int) < 0) from by omega, if_false, Int.toNat_natCast, Array.getElem?_eq_none hge]; refine wpAny_bind ?_
  first | refine wpAny_bind (wpAny_typeNameOfWhole_keyiter hit.typeIs (wpAny_pure ?_)) | refine wpAny_bind (wpAny_typeNameOf_keyiter hit.typeIs (wpAny_pure ?_))
  show wpAny _ _ (setField (.ref it) 0 .none >>= _) _ _ s; refine wpAny_bind (wpAny_setField ho hd (by simp) ?_); show wpAny _ _ (newExc (.type "StopIteration") [] >>= _) _ _ _; refine wpAny_bind ?_
  simp only [newExc, newTuple]; refine wpAny_bind (wpAny_newObj_type ?_ (by size_fits)); refine wpAny_bind (m := firstArgMember _ _) (wpAny_of_eq (a := Value.none) (by first | rfl | (simp only [firstArgMember]; rfl)) (wpAny_newObj_type ?_ (by size_fits)))
  simp only [raiseNew]; refine wpAny_bind (wpAny_handled ?_); rw [show A.in1.handled = none from hh]; refine wpAny_bind (wpAny_pure (wpAny_throw ?_))
  refine wpAny_bind (wpAny_isInstance (T := "StopIteration") (b := true) ⟨_, Heap.get?_push_size _ rfl, rfl⟩ isSubtype_stop ?_)
  exact wpAny_pure (hQ _ (((Heap.SameBut.update ..).extBut.push _).push _))
theorem raw_walk (hh : A.handled = none) (I d : Addr) (hne : d ≠ I) (es : Array DictEntry) (ep : Nat) : Walks prog w A I [I, d] [I] es.size (fun i v => ∃ e, es[i]? = some e ∧ v = e.key) (fun i h => h.IsKeyIter I d i es.size ep ∧ RawD h d es ep) where
  sub := fun b hb => by simp at hb; simp [hb]
  frame := fun _ _ _ st hk => ⟨st.1.at fun o e => hk I (by simp) o e, st.2.at fun o e => hk d (by simp) o e⟩
  item := fun i s Q E hi st hQ => raw_item st.1 st.2 (Array.getElem?_eq_getElem hi) fun h' hit' hs' => hQ _ h' s.toks ⟨_, Array.getElem?_eq_getElem hi, rfl⟩ ⟨hit', st.2.at fun o e => hs'.extBut d o hne e⟩ fun b o hb e => hs'.extBut b o (fun h => hb (by simp [h])) e
  done := fun s Q E st hQ => raw_end hh st.1 st.2 (Nat.le_refl _) fun h' he' => hQ h' s.toks fun b o hb e => he' b o (fun h => hb (by simp [h])) e
  self := fun _ _ _ _ st hQ => wpAny_pyIter_keyiter st.1 hQ
theorem raw_src (lo : (d == sysModules) = false) : PySem.W.KdlSrc prog w "dict" d d es.size (fun i v => ∃ e, es[i]? = some e ∧ v = e.key) (fun h => RawD h d es ep) where
  type := fun _ hm => hm.ty
  there := fun _ hm => let ⟨_, ho, _⟩ := hm; ⟨Heap.lt_size ho, Heap.lt_size ho⟩
  keep := fun _ _ hm hk => hm.at fun o e => hk d (.inl rfl) o e
  notList := by decide
  notTuple := by decide
  hint := fun _ _ _ _ hm hq => PySem.W.kdl_hint_dict hm.ty hq
  iter := fun _ _ hh hm => ⟨_, _, (fun _ _ hq => raw_iter lo hm hq), raw_walk hh _ d (let ⟨_, ho, _⟩ := hm; Nat.ne_of_lt (Heap.lt_size ho)) es ep, ⟨⟨_, Heap.get?_push_size _ rfl, rfl, rfl⟩, hm.at fun o e => Heap.get?_push_of_some _ e⟩⟩
end
def rList (P : Program) (w : World) (K : PySem.W.Frag) : List V → Hp → VK → Prop := fun xs H Q => ∃ a kvs, xs = [.ref a] ∧ ND P w K H a kvs ∧ ∀ p ys, H p = none → Paired (fun v k => ∃ b, v = V.ref b ∧ SqZ K H b (k.map kV)) ys (kvs.map (·.1)) → Q (.ref p) (upd H p (.lst ys))
theorem call_list {X : Cx} (hc : X.calm = true) : CallR X (.type "list") (rList X.prog X.w X.K) := by
  intro pins s σ H xs us Q I r h
  obtain ⟨a, kvs, rfl, n, q⟩ := h
  obtain ⟨u, rfl, rx⟩ := vals1 r
  cases rx
  obtain ⟨xs, e, rel, o, es, ep, h1, h2, h3, h4, _⟩ := nd_rd I n
  have zl : xs.length = kvs.length := (Paired.length rel).symm
  have el : es.size = xs.length := by rw [← Array.length_toList, h4, List.length_map]
  refine PySem.W.kdl_call (raw_src (es := es) (ep := ep) n.ne) (I.ok.hd hc) ⟨o, h1, h2, h3⟩ (by rw [el, zl]; exact n.z) fun h' tk acc' c' hk' hS' hacc => ?_
  have ev : acc'.toList = xs.map fun x => Value.ref x.2.1 := by
    refine List.ext_getElem? fun i => ?_
    rw [List.getElem?_map]
    by_cases hi : i < xs.length
    · obtain ⟨v, hv⟩ : ∃ v, acc'.toList[i]? = some v := ⟨_, List.getElem?_eq_getElem (by rw [Array.length_toList, hacc.1]; omega)⟩
      obtain ⟨en, he, hk⟩ := hacc.2 i v (by rw [← Array.getElem?_toList]; exact hv)
      rw [← Array.getElem?_toList, h4, List.getElem?_map] at he
      obtain ⟨x, hx, rfl⟩ := Option.map_eq_some_iff.mp he
      rw [hv, hx, hk]
      rfl
    · rw [List.getElem?_eq_none (by rw [Array.length_toList, hacc.1]; omega), List.getElem?_eq_none (by omega)]
      rfl
  have pr : ∀ {l : List (List Key × V)} {m : List (List Key × Addr × Value)}, KN X.K H l m → Paired (fun v k => ∃ b, v = V.ref b ∧ SqZ X.K H b (k.map kV)) (m.map fun x => V.ref x.2.1) (l.map (·.1)) ∧ Vals (m.map fun x => V.ref x.2.1) (m.map fun x => Value.ref x.2.1) := fun z => by
    induction z with
    | nil => exact ⟨.nil, .nil⟩
    | cons hz _ ih => exact ⟨.cons ⟨_, rfl, hz.2.1⟩ ih.1, .cons rfl ih.2⟩
  obtain ⟨p1, p2⟩ := pr rel
  refine ⟨.ref _, _, I.laid (o := .lst (xs.map fun x => V.ref x.2.1)) hk' (Nat.le_refl _) ?_, rfl, q _ _ (I.hok.fresh (Nat.le_refl _)) p1⟩
  exact ⟨by rw [List.length_map, zl]; exact n.z, acc'.toList, c', by rw [ev]; exact p2, hS'⟩
end LT

/-! ### a comprehension over a list whose things are told one by one -/
namespace L2
open PySem PySem.Spec PyProof.Rows
theorem size3000 {n : Nat} (h : n ≤ 3000) : n < sizeLine := Nat.lt_of_le_of_lt h (by decide)
theorem comp_pair {β : Type} {J : It} {xs : List V} {D : Addr} {g : TG} {tt : TT} {te : TE} {σ0 : St} {QD : Hp → Prop} {H1 : Hp} (Y : Ys J xs H1) (rs : List β) (el : xs.length = rs.length) (p : β → Bool) (Pr : β → V → Hp → Prop) (hP : ∀ r y H H', Pr r y H → Tk H H' → Pr r y H') (hD : H1 D = none) (hl : xs.length ≤ 3000)
    (hs : ∀ (i : Nat) x r H' (R1 : VK) (R2 : Hp → Prop), xs[i]? = some x → rs[i]? = some r → Same H1 H' → (p r = true → ∀ y H4, Same H' H4 → Pr r y H4 → R1 y H4) → (p r = false → ∀ H4, Same H' H4 → R2 H4) → g x σ0 H' fun σ2 H2 => Keep σ0 σ2 ∧ tt σ2 H2 fun b H3 => if b = true then te σ2 H3 R1 else R2 H3)
    (hd : ∀ ys H', Same H1 H' → H' D = some (.lst ys) → Paired (fun y r => Pr r y H') ys (rs.filter p) → QD H') :
    ∃ W : Nat → Nat → List V → Hp → Prop, (∃ m, W 0 m [] (upd H1 D (.lst []))) ∧ ∀ i m ys H, W i m ys H → H D = some (.lst ys) ∧ ys.length < sizeLine ∧
      ((J.stop i H ∧ QD H) ∨ (J.go i H ∧ ∀ x H', J.yld i H x H' → g x σ0 H' fun σ2 H2 => Keep σ0 σ2 ∧ tt σ2 H2 fun b H3 =>
        if b = true then te σ2 H3 fun y H4 => H4 D = some (.lst ys) ∧ ∃ m', m' < m ∧ W (i + 1) m' (ys ++ [y]) (upd H4 D (.lst (ys ++ [y]))) else ∃ m', m' < m ∧ W (i + 1) m' ys H3)) := by
  refine ⟨fun i m ys H => m = xs.length - i ∧ i ≤ xs.length ∧ Same H1 H ∧ H D = some (.lst ys) ∧ Paired (fun y r => Pr r y H) ys ((rs.take i).filter p), ⟨_, rfl, Nat.zero_le _, Same.upd hD, upd_same, .nil⟩, ?_⟩
  rintro i m ys H ⟨rfl, hi, sm, hDH, pr⟩
  have yl : ys.length ≤ i := by
    rw [Paired.length pr]
    refine Nat.le_trans (List.length_filter_le _ _) ?_
    rw [List.length_take]
    exact Nat.min_le_left ..
  refine ⟨hDH, size3000 (by omega), ?_⟩
  by_cases hlt : i < xs.length
  · refine .inr ⟨Y.go i H sm hlt, fun x H' y => ?_⟩
    obtain ⟨rfl, hx⟩ := Y.yld i H x H' sm hlt y
    obtain ⟨r, hr⟩ : ∃ r, rs[i]? = some r := ⟨_, List.getElem?_eq_getElem (by omega)⟩
    have et : (rs.take (i + 1)).filter p = (rs.take i).filter p ++ if p r = true then [r] else [] := by
      rw [List.take_add_one, hr, List.filter_append]
      congr 1
      show List.filter p [r] = _
      by_cases e : p r = true
      · rw [if_pos e, List.filter_cons_of_pos e]; rfl
      · rw [if_neg e, List.filter_cons_of_neg e]; rfl
    refine hs i x r H' _ _ hx hr sm (fun hp y H4 s4 py => ?_) fun hp H4 s4 => ?_
    · have hD4 := s4 _ _ hDH
      have tk : Tk H4 (upd H4 D (.lst (ys ++ [y]))) := Tk.lst hD4
      refine ⟨hD4, xs.length - (i + 1), by omega, rfl, hlt, fun b o hb => ?_, upd_same, ?_⟩
      · rw [upd_ne (ne_of_none hb hD)]
        exact s4 _ _ (sm _ _ hb)
      · rw [et, if_pos hp]
        exact Paired.snoc (Paired.mapP pr fun _ _ z => hP _ _ _ _ (hP _ _ _ _ z (Same.tk s4)) tk) (hP _ _ _ _ py tk)
    · refine ⟨xs.length - (i + 1), by omega, rfl, hlt, sm.trans s4, s4 _ _ hDH, ?_⟩
      rw [et, if_neg (by rw [hp]; decide), List.append_nil]
      exact Paired.mapP pr fun _ _ z => hP _ _ _ _ z (Same.tk s4)
  · have e : i = xs.length := by omega
    subst e
    rw [el, List.take_length] at pr
    exact .inl ⟨Y.stop _ H sm (Nat.le_refl _), hd ys H sm hDH pr⟩
end L2

namespace K64
open PySem PySem.Spec PyProof.Rows L2 GM TM BF BE
/-! ### rising, strengths_of -/
def lamPos : Stmt → Pos
  | .Return (some (.Call _ _ [⟨_, .Lambda _ _ _ p, _⟩] _)) _ => p
  | _ => ⟨0, 0, 0, 0⟩
abbrev inS (s : Stmt) (j : Nat) : Stmt := (defBody s).getD j (.Pass ⟨0, 0, 0, 0⟩)
def lamP : Pos := lamPos (inS sRising 2)
def lamQ : Str := ("rising" : Str) ++ ".<locals>." ++ "<lambda>"
/-- fractions in the heap or among the constants -/
def FrZ (K : PySem.W.Frag) (H : Hp) (vs : List V) (fr : List (Int × Int)) : Prop := Paired (fun v x => ∃ a, v = V.ref a ∧ SqZ K H a [.int x.1, .int x.2]) vs fr
theorem FrZ.keep {K : PySem.W.Frag} {H H' : Hp} {vs : List V} {fr : List (Int × Int)} (h : FrZ K H vs fr) (t : ∀ b ys, H b = some (.tup ys) → H' b = some (.tup ys)) : FrZ K H' vs fr := Paired.mapP h fun _ _ ⟨a, e, q⟩ => ⟨a, e, LK.sz_keep q t⟩
structure AmB (x : Int × Int) : Prop where
  a : Amt x.1 x.2
  t : Bt 2000 x.1
  b : Bt 2000 x.2
def spRising (K : PySem.W.Frag) (T2 : Addr) : Sp := fun vs H Q _ => ∃ (a : Addr) (xs : List V) (fr : List (Int × Int)), vs = [.ref a] ∧ SqL K H a xs ∧ FrZ K H xs fr ∧ fr.length < 64 ∧ (∀ x ∈ fr, AmB x) ∧ fr.Nodup ∧ LamT H T2 lamQ lamP ∧
  ∀ p ys fr' H', SameB T2 H H' → LamT H' T2 lamQ lamP → H p = none → H' p = some (.lst ys) → FrZ K H' ys fr' → fr'.Perm fr → fr'.Pairwise Lf → Q (.ref p) H'
theorem noif {σ : L2.St} {H : Hp} {F G : Hp → Prop} (h : F H) : tNoIf σ H fun b H3 => if b = true then F H3 else G H3 := by
  show (if true = true then F H else G H)
  rw [if_pos rfl]
  exact h
theorem ints_of {ys : List V} {fr : List (Int × Int)} (h : Paired (fun y (r : Int × Int) => y = V.int r.2) ys fr) : ys = (fr.map (·.2)).map V.int := by
  induction h with
  | nil => rfl
  | cons h _ ih => rw [ih, h]; rfl
theorem ndTb : (["top", "bottom"] : List Str).Nodup := by decide +kernel
def keyF (g : Int) (x : Int × Int) : Int := x.1 * (g * g) / x.2
theorem paired_len {α β : Type} {R : α → β → Prop} {l : List α} {m : List β} (h : Paired R l m) : l.length = m.length := Paired.length h
theorem zip_pair {K : PySem.W.Frag} {H : Hp} {g : Int} {vs : List V} {fr : List (Int × Int)} (h : FrZ K H vs fr) : Paired (fun (x : Int × Int) (q : Int × V) => q.1 = keyF g x ∧ ∃ a, q.2 = V.ref a ∧ SqZ K H a [.int x.1, .int x.2]) fr ((fr.map (keyF g)).zip vs) := by
  induction h with
  | nil => exact .nil
  | cons h _ ih => exact .cons ⟨rfl, h⟩ ih
theorem unzip_pair {K : PySem.W.Frag} {H H' : Hp} {g : Int} {fr : List (Int × Int)} {ps : List (Int × V)} (t : ∀ b ys, H b = some (.tup ys) → H' b = some (.tup ys)) (h : Paired (fun (x : Int × Int) (q : Int × V) => q.1 = keyF g x ∧ ∃ a, q.2 = V.ref a ∧ SqZ K H a [.int x.1, .int x.2]) fr ps) : FrZ K H' (ps.map (·.2)) fr ∧ fr.map (keyF g) = ps.map (·.1) := by
  induction h with
  | nil => exact ⟨.nil, rfl⟩
  | cons h _ ih =>
    obtain ⟨e, a, e2, q⟩ := h
    exact ⟨.cons ⟨a, e2, LK.sz_keep q t⟩ ih.1, by rw [List.map_cons, List.map_cons, ih.2, e]⟩
theorem rise_of {g : Int} {fr : List (Int × Int)} (am : ∀ x ∈ fr, AmB x) (nd : fr.Nodup) (hg : ∀ x ∈ fr, x.2 ≤ g) (h : (fr.map (keyF g)).Pairwise (· ≤ ·)) : fr.Pairwise Lf := by
  have h2 := List.pairwise_map.mp h
  refine (h2.and nd).imp_of_mem fun {x y} hx hy ⟨h3, h4⟩ => ?_
  by_cases l : Lf x y
  · exact l
  · exfalso
    have l2 := Lf.tri (am x hx).a (am y hy).a l h4
    have := key_lt (am y hy).a.b1 (am x hx).a.b1 (hg y hy) (hg x hx) l2
    unfold keyF at h3
    omega
theorem sB_tk {T : Addr} {G H : Hp} (s : SameB T G H) (l : LamT G T lamQ lamP) : ∀ b ys, G b = some (.tup ys) → H b = some (.tup ys) := fun b ys e => s.tup l e
section
variable {P : Program} {w : World} {K : PySem.W.Frag} {mg : Str → Option Value} {base : Heap}
theorem scRise : FnScope ["fractions", "greatest", "scale"] ["fractions"] (defScope sRising) := ⟨rfl, rfl, rfl, by decide +kernel, rfl, by decide +kernel, by decide +kernel⟩
theorem ok_rising {f c T2 : Addr} {fd : FuncData} (F : FunC K "rising" "rising" sRising f fd c) (T : Txt mg) (B : LamB mg base c T2) : FnOk P w K mg base CX0 2 f fd ["fractions"] (spRising K T2) := by
  refine F.ok scRise (fun vs H Q E h => ?_) (fun A outer s H vs Q E hr h => ?_)
  · obtain ⟨_, _, _, rfl, _⟩ := h
    rfl
  · obtain ⟨a, xs, fr, rfl, hl, hf, l64, am, nd, lt, k⟩ := h
    refine ⟨_, (pss_cons (ps_set (i := 1) scRise.nd rfl (Or.inl rfl) (pe_maxD rfl rfl T.max' (pe_comp (N' := ["top", "bottom"]) (cl := []) (g := gTup K 2 (gCons (gName 0) (gCons (gName 1) gNil))) (fun _ => [none, none]) rfl rfl (by decide +kernel) (by decide +kernel) (clOk_plain (by decide +kernel)) (fun _ _ => blkN_none)
          (pi_list (pv 0)) (fun _ _ _ _ _ => pg_tup rfl (pgs_cons (pg_name (i := 0) ndTb rfl (Or.inl rfl) (Or.inr rfl)) (pgs_cons (pg_name (i := 1) ndTb rfl (Or.inl rfl) (Or.inr rfl)) pgs_nil))) (fun _ _ _ _ _ => pifs_nil) (fun _ _ _ _ _ => pv 1))))
      (pss_cons (ps_set (i := 2) scRise.nd rfl (Or.inr rfl) (pe_op op_mulB (pv 1) (pv 1)))
      (pss_one (ps_ret (pe_sortC1 (qual := lamQ) (lpos := lamP) (x := "one") (y := "scale") (i := 2) (n := 0) (cc := s.heap.objs.size + 1) hr rfl T.sorted' (pv 0) B rfl rfl rfl rfl (fun _ _ _ _ => rfl) ⟨rfl, rfl, rfl, by decide +kernel, rfl, rfl, fun z h => of_decide_eq_true ((List.all_eq_true.mp (by decide +kernel : ([("one", NameKind.local), ("scale", NameKind.free)] : List (Str × NameKind)).all (fun x => decide (x.2 = .free → x.1 = "scale")) = true)) _ (PySem.mem_of_lookup h)) rfl⟩ (by decide) rfl rfl rfl
        (fun _ _ _ _ => pe_op op_fdivB (pe_op op_mulB (pe_ix (ix_tupK (K := K) rfl) (pv 0) pe_int (fun _ _ => rfl)) (pv 1)) (pe_ix (ix_tupK (K := K) rfl) (pv 0) pe_int (fun _ _ => rfl)))))))), ?_⟩
    have fl := paired_len hf
    refine ⟨_, rfl, a, rfl, ⟨_, hl⟩, fun D nD => ?_⟩
    refine comp_pair (Ys.list hl) fr fl (fun _ => true) (fun x y _ => y = .int x.2) (fun _ _ _ _ h _ => h) nD (by omega) (fun i v x H' R1 R2 hv hx sm q1 _ => ?_) (fun ys H1 s1 hD1 pr => ?_)
    · obtain ⟨_, hv', b, rfl, hb⟩ := BF.paired_at hf hx
      rw [hv] at hv'
      cases hv'
      exact ⟨b, _, rfl, (LK.sz_keep hb fun b ys => sm _ _).sq, rfl, _, _, rfl, _, _, rfl, rfl, ((Keep.refl _).set rfl).set rfl, noif ⟨_, rfl, q1 rfl _ _ (Same.refl _) rfl⟩⟩
    have ey : ys = (fr.map (·.2)).map V.int := by
      have e1 : fr.filter (fun _ => true) = fr := List.filter_eq_self.mpr fun _ _ => rfl
      rw [e1] at pr
      exact ints_of pr
    subst ey
    refine ⟨D, fr.map (·.2), rfl, SqL.of hD1, fun g hg => ?_⟩
    have hg' : ∀ x ∈ fr, x.2 ≤ g := fun x hx => by
      rcases hg with ⟨e, _⟩ | ⟨_, h⟩
      · have : fr = [] := List.map_eq_nil_iff.mp e
        rw [this] at hx
        cases hx
      · exact h _ (List.mem_map.mpr ⟨x, hx, rfl⟩)
    have gb : Bt 2000 g := by
      rcases hg with ⟨_, rfl⟩ | ⟨m, _⟩
      · exact bt_lt 2000 (c := 2) (by decide) (by decide)
      · obtain ⟨x, hx, rfl⟩ := List.mem_map.mp m
        exact (am x hx).b
    have g2 : Bt 4000 (g * g) := gb.mul gb
    refine ⟨_, rfl, _, rfl, _, _, rfl, rfl, ⟨gb.mono (by decide), gb.mono (by decide)⟩, ?_⟩
    refine ⟨_, rfl, a, xs, fr.map (keyF g), .int (g * g), rfl, s1.seq hl, by omega, by rw [List.length_map]; omega, LamT.keep lt s1, rfl, fun j v kk hv hk H2 sb => ?_, fun p ps H2 pm pw sb l2 np hp => ?_⟩
    · rw [List.getElem?_map] at hk
      obtain ⟨x, hx, rfl⟩ := Option.map_eq_some_iff.mp hk
      obtain ⟨_, hv', b, rfl, hb⟩ := BF.paired_at hf hx
      rw [hv] at hv'
      cases hv'
      have ax := am x (List.mem_of_getElem? hx)
      have hb2 := LK.sz_keep (LK.sz_keep hb fun b ys => s1 _ _) (sB_tk sb (LamT.keep lt s1))
      have b1 := ax.a.b1
      exact ⟨_, rfl, b, _, 0, .int x.1, rfl, rfl, hb2.sq, rfl, _, rfl, _, _, rfl, rfl, ⟨ax.t.mono (by decide), g2.mono (by decide)⟩, _, rfl, b, _, 1, .int x.2, rfl, rfl, hb2.sq, rfl, _, _, rfl, rfl, ⟨by omega, ax.b.mono (by decide)⟩, rfl, Same.refl _⟩
    · obtain ⟨fr', pf, pp⟩ := perm_paired pm (zip_pair (g := g) hf)
      obtain ⟨z1, z2⟩ := unzip_pair (H' := H2) (fun b ys e => sB_tk sb (LamT.keep lt s1) b ys (s1 _ _ e)) pp
      refine k p _ fr' H2 ((Same.b s1).trans sb) l2 (s1.free np) hp z1 pf (rise_of (g := g) (fun x hx => am x (pf.mem_iff.mp hx)) (pf.nodup_iff.mpr nd) (fun x hx => hg' x (pf.mem_iff.mp hx)) ?_)
      rw [z2]
      exact List.pairwise_map.mpr pw
end
end K64

namespace K64
open PySem PySem.Spec PyProof.Rows L2 GM TM BF BE
/-! ### strengths_of -/
abbrev M3 := Int × Int × Int
def stM (m : M3) : Int × Int := (lt' m.2.1 (m.2.2 * m.1), lb' m.2.1 (m.2.2 * m.1))
structure MxOk (m : M3) : Prop where
  f1 : 1 ≤ m.1
  f2 : m.1 ≤ 10000
  am : Amt m.2.1 m.2.2
  bt : Bt 1500 m.2.1
  bb : Bt 1500 m.2.2
theorem MxOk.st {m : M3} (h : MxOk m) : AmB (stM m) := by
  have b1 := h.am.b1
  have t0 := h.am.t0
  have f1 := h.f1
  have p2 : 1 ≤ m.2.2 * m.1 := by
    have := Int.mul_le_mul b1 f1 (by decide) (by omega)
    omega
  have q2 : Bt (1500 + 14) (m.2.2 * m.1) := h.bb.mul (bt_lt 14 (c := 10001) (by omega) (by have := h.f2; omega))
  exact ⟨low_amt t0 p2, (h.bt.div t0).mono (by decide), (q2.div (by omega)).mono (by decide)⟩
def NVs (K : PySem.W.Frag) (H : Hp) (xs : List V) (ms : List M3) : Prop := Paired (fun v m => NV K H v (keyM m.1 m.2.1 m.2.2)) xs ms
/-- fewer strengths than the sort takes -/
def Few (ms : List M3) : Prop := ∀ fr : List (Int × Int), fr.Nodup → (∀ x ∈ fr, ∃ m ∈ ms, stM m = x) → fr.length < 64
def spStrOf (K : PySem.W.Frag) (T2 : Addr) : Sp := fun vs H Q _ => ∃ (a : Addr) (xs : List V) (ms : List M3), vs = [.ref a] ∧ SqL K H a xs ∧ NVs K H xs ms ∧ (∀ m ∈ ms, MxOk m) ∧ Few ms ∧ LamT H T2 lamQ lamP ∧
  ∀ p ys fr H', SameB T2 H H' → LamT H' T2 lamQ lamP → H p = none → H' p = some (.lst ys) → FrZ K H' ys fr → (∀ x, x ∈ fr ↔ ∃ m ∈ ms, stM m = x) → (∀ x ∈ fr, AmB x) → fr.Pairwise Lf → Q (.ref p) H'
def keyT (x : Int × Int) : List Key := [.inl x.1, .inl x.2]
theorem keyT_inj {x y : Int × Int} (h : keyT x = keyT y) : x = y := by
  obtain ⟨a, b⟩ := x
  obtain ⟨c, d⟩ := y
  unfold keyT at h
  injection h with h1 h2
  injection h2 with h2 _
  exact Prod.ext (Sum.inl.inj h1) (Sum.inl.inj h2)
theorem putK_keys {κ : Type} [DecidableEq κ] (kvs : List (κ × V)) (k : κ) (v : V) : (k ∈ kvs.map (·.1) ∧ (putK kvs k v).map (·.1) = kvs.map (·.1)) ∨ (k ∉ kvs.map (·.1) ∧ (putK kvs k v).map (·.1) = kvs.map (·.1) ++ [k]) := by
  unfold putK
  split
  · rename_i ha
    obtain ⟨x, hx, e⟩ := List.any_eq_true.mp ha
    refine .inl ⟨List.mem_map.mpr ⟨x, hx, of_decide_eq_true e⟩, ?_⟩
    rw [List.map_map]
    refine List.map_congr_left fun kv _ => ?_
    show (if kv.1 = k then (kv.1, v) else kv).1 = kv.1
    split <;> rfl
  · rename_i ha
    refine .inr ⟨fun m => ha ?_, by rw [List.map_append]; rfl⟩
    obtain ⟨x, hx, e⟩ := List.mem_map.mp m
    exact List.any_eq_true.mpr ⟨x, hx, decide_eq_true e⟩
theorem paired_unmap {α β γ : Type} {R : α → γ → Prop} {f : β → γ} : ∀ {l : List α} {m : List β}, Paired R l (m.map f) → Paired (fun a b => R a (f b)) l m
  | [], [], _ => .nil
  | _ :: _, _ :: _, .cons h t => .cons h (paired_unmap t)
/-- what is found so far -/
structure Fnd (kvs : List (List Key × V)) (fr : List (Int × Int)) (ms : List M3) : Prop where
  ks : kvs.map (·.1) = fr.map keyT
  nd : fr.Nodup
  mem : ∀ x, x ∈ fr ↔ ∃ m ∈ ms, stM m = x
theorem Fnd.put {kvs : List (List Key × V)} {fr : List (Int × Int)} {ms : List M3} (h : Fnd kvs fr ms) (m : M3) (v : V) : ∃ fr', Fnd (putK kvs (keyT (stM m)) v) fr' (ms ++ [m]) := by
  have mem' : ∀ x, (∃ n ∈ ms ++ [m], stM n = x) ↔ ((∃ n ∈ ms, stM n = x) ∨ stM m = x) := fun x => by
    constructor
    · rintro ⟨n, hn, e⟩
      rcases List.mem_append.mp hn with hn | hn
      · exact .inl ⟨n, hn, e⟩
      · rw [List.mem_singleton.mp hn] at e; exact .inr e
    · rintro (⟨n, hn, e⟩ | e)
      · exact ⟨n, List.mem_append_left _ hn, e⟩
      · exact ⟨m, List.mem_append_right _ (List.mem_singleton.mpr rfl), e⟩
  have inK : keyT (stM m) ∈ kvs.map (·.1) ↔ stM m ∈ fr := by
    rw [h.ks]
    constructor
    · intro z
      obtain ⟨y, hy, e⟩ := List.mem_map.mp z
      rw [← keyT_inj e]; exact hy
    · exact fun z => List.mem_map.mpr ⟨_, z, rfl⟩
  rcases putK_keys kvs (keyT (stM m)) v with ⟨i, e⟩ | ⟨i, e⟩
  · refine ⟨fr, e.trans h.ks, h.nd, fun x => ?_⟩
    rw [mem', h.mem]
    constructor
    · exact .inl
    · rintro (z | z)
      · exact z
      · rw [← z]; exact (h.mem _).mp (inK.mp i)
  · refine ⟨fr ++ [stM m], by rw [e, h.ks, List.map_append]; rfl, ?_, fun x => ?_⟩
    · refine List.nodup_append.mpr ⟨h.nd, List.pairwise_singleton .., fun a ha b hb => ?_⟩
      rw [List.mem_singleton.mp hb]
      exact fun z => i (inK.mpr (z ▸ ha))
    · rw [mem', List.mem_append, h.mem, List.mem_singleton]
      constructor
      · rintro (z | z)
        · exact .inl z
        · exact .inr z.symm
      · rintro (z | z)
        · exact .inl z
        · exact .inr z.symm
theorem Fnd.len {kvs : List (List Key × V)} {fr : List (Int × Int)} {ms ms' : List M3} (h : Fnd kvs fr ms) (hc : Few ms') (sub : ∀ m ∈ ms, m ∈ ms') : fr.length < 64 ∧ kvs.length = fr.length := by
  refine ⟨hc fr h.nd fun x hx => ?_, ?_⟩
  · obtain ⟨m, hm, e⟩ := (h.mem x).mp hx
    exact ⟨m, sub m hm, e⟩
  · have := congrArg List.length h.ks
    rwa [List.length_map, List.length_map] at this
section
variable {P : Program} {w : World} {K : PySem.W.Frag} {mg : Str → Option Value} {base : Heap} {T2 : Addr}
theorem scStrOf : FnScope ["mixings", "found", "mixing"] ["mixings"] (defScope sStrOf) := ⟨rfl, rfl, rfl, by decide +kernel, rfl, by decide +kernel, by decide +kernel⟩
theorem ok_strof {f : Addr} {fd : FuncData} (F : Fun K "strengths_of" "strengths_of" sStrOf f fd) (T : Txt mg) (cS : Cal P w K mg base CX0 4 "strength" ["mixing"] (spStr K)) (cR : Cal P w K mg base CX0 2 "rising" ["fractions"] (spRising K T2)) : FnOk P w K mg base CX0 5 f fd ["mixings"] (spStrOf K T2) := by
  refine F.ok scStrOf (fun vs H Q E h => ?_) (fun cdv A outer s H vs Q E hr h => ?_)
  · obtain ⟨_, _, _, rfl, _⟩ := h
    rfl
  · obtain ⟨a, xs, ms, rfl, hl, hn, mo, few, lt, k⟩ := h
    refine ⟨_, (pss_cons (ps_set (i := 1) scStrOf.nd rfl (Or.inl rfl) LT.pe_new)
      (pss_cons (ps_for PassesOwn.never rfl (pi_list (pv 0)) (pg_name (i := 2) scStrOf.nd rfl (Or.inl rfl))
        (pss_one (LT.ps_put (hu_of hr) (pv 1) (pe_cal cS hr rfl pass0 (pa_cons (pv 2) pa_nil)) pe_bl rfl)))
      (pss_one (ps_ret (pe_cal cR (hr.mono (by decide)) rfl pass0 (pa_cons (pe_callTy (LT.call_list rfl) rfl T.list' bt_list (pa_cons (pv 1) pa_nil)) pa_nil)))))), ?_⟩
    have nl := paired_len hn
    refine fun d o nd0 n0 => ?_
    have s0 : Same H (upd H d o) := Same.upd nd0
    refine ⟨_, rfl, a, rfl, ⟨_, s0.seq hl⟩, ?_⟩
    refine for_listN (xs := xs) (fun i σ H' => ∃ (kvs : List (List Key × V)) (fr : List (Int × Int)) (v2 : Option V), σ = [some (.ref a), some (.ref d), v2] ∧ Same H H' ∧ LT.ND P w K H' d kvs ∧ Fnd kvs fr (ms.take i)) ⟨[], [], _, rfl, s0, n0, ⟨rfl, List.nodup_nil, fun x => ⟨(fun z => nomatch z), fun ⟨m, hm, _⟩ => by rw [List.take_zero] at hm; cases hm⟩⟩⟩ ?_ ?_ ?_
    · rintro i σ H' _ ⟨_, _, _, _, s1, _⟩
      exact s1.seq hl
    · rintro i x σ H1 D' hN hx ⟨kvs, fr, v2, rfl, s1, n1, fd⟩
      obtain ⟨m, hm⟩ : ∃ m, ms[i]? = some m := ⟨_, List.getElem?_eq_getElem (by have := (List.getElem?_eq_some_iff.mp hx).1; omega)⟩
      obtain ⟨_, hx', nv⟩ := BF.paired_at hn hm
      rw [hx] at hx'
      cases hx'
      obtain ⟨g, q, rfl, hg, hq⟩ := nv_at (nv.keep fun b ys => s1 _ _)
      have ok := mo m (List.mem_of_getElem? hm)
      obtain ⟨fl, kl⟩ := fd.len few fun m hm => List.mem_of_mem_take hm
      refine ⟨_, rfl, _, rfl, g, q, m.1, m.2.1, m.2.2, rfl, hg, hq, ok.am, ok.bt, ok.bb, ok.f1, ok.f2, fun p H2 s2 hp => ?_⟩
      refine ⟨d, kvs, keyT (stM m), p, rfl, rfl, n1.same s2, hp, size3000 (by omega), fun o' n2 => ?_⟩
      obtain ⟨fr', fd'⟩ := fd.put m (.bl true)
      refine hN _ _ ⟨_, fr', _, rfl, fun b u e => ?_, n2, ?_⟩
      · rw [upd_ne (ne_of_none e nd0)]
        exact s2 _ _ (s1 _ _ e)
      · rw [List.take_add_one, hm]
        exact fd'
    · rintro σ H1 ⟨kvs, fr, v2, rfl, s1, n1, fd⟩
      rw [nl, List.take_length] at fd
      obtain ⟨fl, kl⟩ := fd.len few fun _ h => h
      refine ⟨_, rfl, d, kvs, rfl, n1, fun l ys nl' pr => ?_⟩
      have s2 := Same.upd (o := .lst ys) nl'
      rw [fd.ks] at pr
      have fz : FrZ K H1 ys fr := paired_unmap pr
      refine ⟨l, ys, fr, rfl, SqL.of upd_same, fz.keep fun b ys => s2 _ _, by omega, fun x hx => ?_, fd.nd, LamT.keep lt (s1.trans s2), fun p zs fr' H3 sb l3 np hp fz' pm pw => ?_⟩
      · obtain ⟨m, hm, e⟩ := (fd.mem x).mp hx
        rw [← e]; exact (mo m hm).st
      · refine k p zs fr' H3 ((Same.b (s1.trans s2)).trans sb) l3 ((s1.trans s2).free np) hp fz' (fun x => by rw [pm.mem_iff]; exact fd.mem x) (fun x hx => ?_) pw
        obtain ⟨m, hm, e⟩ := (fd.mem x).mp (pm.mem_iff.mp hx)
        rw [← e]; exact (mo m hm).st
end
end K64

/-! ### two defs within a def; what stays but for tables; cells taken and given back -/
namespace L2
open PySem PySem.Spec PySem.Calls PyProof.Rows
/-- all but tables stays -/
def SmN (H H' : Hp) : Prop := ∀ b o, (∀ ps, o ≠ .tbl ps) → H b = some o → H' b = some o
theorem SmN.trans {H H1 H2 : Hp} (a : SmN H H1) (b : SmN H1 H2) : SmN H H2 := fun c o n e => b c o n (a c o n e)
theorem SmN.of {H H1 : Hp} (a : Same H H1) : SmN H H1 := fun c o _ e => a c o e
theorem SmN.ofT {H H1 : Hp} {T : Addr} {ps : Array Value} (a : SameB T H H1) (l : H T = some (.tbl ps)) : SmN H H1 := fun c o n e => a c o (fun z => by rw [z, l] at e; cases e; exact n _ rfl) e
theorem SmN.ofB {H H1 : Hp} {T : Addr} {q : Str} {p : Pos} (a : SameB T H H1) (l : LamT H T q p) : SmN H H1 := by
  rcases l with h | ⟨_, _, _, _, _, h, _⟩
  · exact .ofT a h
  · exact .ofT a h
theorem SmN.tk {H H1 : Hp} (a : SmN H H1) : ∀ b ys, H b = some (.tup ys) → H1 b = some (.tup ys) := fun b ys e => a b _ (fun _ z => by cases z) e
theorem SmN.ls {H H1 : Hp} (a : SmN H H1) {b : Addr} {ys : List V} (e : H b = some (.lst ys)) : H1 b = some (.lst ys) := a b _ (fun _ z => by cases z) e
theorem SmN.fz {H H1 : Hp} (a : SmN H H1) {b : Addr} {o : Obj} {u : HO} (e : H b = some (.frz o u)) : H1 b = some (.frz o u) := a b _ (fun _ z => by cases z) e
theorem SmN.seq {K : PySem.W.Frag} {H H1 : Hp} {a : Addr} {xs : List V} (s : SmN H H1) (h : SqL K H a xs) : SqL K H1 a xs := by
  rcases h with (h | ⟨o, h⟩) | h
  · exact .inl (.inl (s.ls h))
  · exact .inl (.inr ⟨o, s.fz h⟩)
  · exact .inr h
theorem FnN.n {H H' : Hp} {f : Addr} {name qual : Str} {params : Arguments} {body : List Stmt} {scope : Scope} {cl : List (Str × Addr)} (h : FnN H f name qual params body scope cl) (s : ∀ b o u, H b = some (.frz o u) → H' b = some (.frz o u)) : FnN H' f name qual params body scope cl := by
  obtain ⟨d, p, c, t, h1, h2⟩ := h
  exact ⟨d, p, c, t, s _ _ _ h1, h2.keep fun o u e => s _ _ _ e⟩
theorem lamT_b {H H' : Hp} {T T2 : Addr} {q : Str} {p : Pos} {ps : Array Value} (l : LamT H T q p) (s : SameB T2 H H') (n : T ≠ T2) (l2 : H T2 = some (.tbl ps)) : LamT H' T q p := by
  rcases l with h | ⟨c, oc, vs, t, u, h, hc, r⟩
  · exact .inl (s _ _ n h)
  · exact .inr ⟨c, oc, vs, t, u, s _ _ n h, (SmN.ofT s l2).fz hc, r⟩
/-- the table of a def with two defs in it: nothing in it yet, or both -/
def LamT2 (H : Hp) (T : Addr) (q1 q2 : Str) (p1 p2 : Pos) : Prop := H T = some (.tbl #[]) ∨ ∃ c1 c2, H T = some (.tbl #[rawInt p1.line, rawInt p1.col, .ref c1, rawInt p2.line, rawInt p2.col, .ref c2]) ∧ CodeA H c1 q1 ∧ CodeA H c2 q2
theorem LamT2.keep {H H' : Hp} {T : Addr} {q1 q2 : Str} {p1 p2 : Pos} (h : LamT2 H T q1 q2 p1 p2) (s : Same H H') : LamT2 H' T q1 q2 p1 p2 := by
  rcases h with h | ⟨c1, c2, h, a, b⟩
  · exact .inl (s _ _ h)
  · exact .inr ⟨c1, c2, s _ _ h, a.keep fun o u => s _ _, b.keep fun o u => s _ _⟩
theorem LamT2.at {H : Hp} {T : Addr} {q1 q2 : Str} {p1 p2 : Pos} (h : LamT2 H T q1 q2 p1 p2) : ∃ ps, H T = some (.tbl ps) := by
  rcases h with h | ⟨c1, c2, h, _⟩
  · exact ⟨_, h⟩
  · exact ⟨_, h⟩
theorem LamT2.b {H H' : Hp} {T T2 : Addr} {q1 q2 : Str} {p1 p2 : Pos} (l : LamT2 H T q1 q2 p1 p2) (s : SmN H H') (n : ∀ ps, H T = some (.tbl ps) → H' T = some (.tbl ps)) : LamT2 H' T q1 q2 p1 p2 := by
  rcases l with h | ⟨c1, c2, h, a, b⟩
  · exact .inl (n _ h)
  · exact .inr ⟨c1, c2, n _ h, a.keep fun o u e => s.fz e, b.keep fun o u e => s.fz e⟩
theorem defs2 {T : Addr} {n1 n2 q1 q2 : Str} {a1 a2 : Arguments} {b1 b2 : List Stmt} {s1 s2 : Scope} {cl1 cl2 : List (Str × Addr)} {p1 p2 : Pos} {i j : Nat} {D : Ends} {u : TS} {σ : St} {H : Hp} (ne : (p1.line == p2.line) = false) (l : LamT2 H T q1 q2 p1 p2)
    (k : ∀ f1 f2 H', SameB T H H' → LamT2 H' T q1 q2 p1 p2 → FnN H' f1 n1 q1 a1 b1 s1 cl1 → FnN H' f2 n2 q2 a2 b2 s2 cl2 → u D ((σ.set i (some (.ref f1))).set j (some (.ref f2))) H') :
    tSeq (sDef T n1 q1 a1 b1 s1 cl1 p1 i) (tSeq (sDef T n2 q2 a2 b2 s2 cl2 p2 j) u) D σ H := by
  have ne1 : ((p1.line : Int) == (p2.line : Int)) = false := by
    rw [beq_eq_false_iff_ne] at ne ⊢
    omega
  have ne2 : ((p2.line : Int) == (p1.line : Int)) = false := by
    rw [beq_eq_false_iff_ne] at ne ⊢
    omega
  rcases l with h | ⟨c1, c2, h, k1, k2⟩
  · refine ⟨#[], h, trivial, .inl ⟨rfl, fun f1 c1 H1 sb1 nf1 nc1 hT1 ca1 fn1 => ?_⟩⟩
    have hT1' : H1 T = some (.tbl #[rawInt p1.line, rawInt p1.col, .ref c1]) := hT1
    refine ⟨_, hT1', trivial, .inl ⟨?_, fun f2 c2 H2 sb2 nf2 nc2 hT2 ca2 fn2 => ?_⟩⟩
    · simp [codeAmong, rawInt, ne1]
    · have sm := SmN.ofT sb2 hT1'
      refine k f1 f2 H2 (sb1.trans sb2) (.inr ⟨c1, c2, hT2, ca1.keep fun o u e => sm.fz e, ca2⟩) (fn1.n fun b o u e => sm.fz e) fn2
  · refine ⟨_, h, trivial, .inr ⟨c1, ?_, k1, fun f1 H1 sm1 nf1 fn1 => ?_⟩⟩
    · simp [codeAmong, rawInt]
    · refine ⟨_, sm1 _ _ h, trivial, .inr ⟨c2, ?_, k2.keep fun o u => sm1 _ _, fun f2 H2 sm2 nf2 fn2 => ?_⟩⟩
      · simp [codeAmong, rawInt, ne1]
      · have sm := sm1.trans sm2
        exact k f1 f2 H2 (Same.b sm) (.inr ⟨c1, c2, sm _ _ h, k1.keep fun o u => sm _ _, k2.keep fun o u => sm _ _⟩) (fn1.n fun b o u => sm2 _ _) fn2
/-- what stays when cells are taken away -/
theorem drop_at {H : Hp} {cs : List Addr} {b : Addr} {x : HO} (hc : ∀ c ∈ cs, ∃ o, H c = some (.frz o (.own 0))) (hb : H b = some x) (n : ∀ o, x ≠ .frz o (.own 0)) : dropA cs H b = some x := by
  rw [dropA_out fun m => by
    obtain ⟨o, ho⟩ := hc b m
    rw [ho] at hb
    cases hb
    exact n _ rfl]
  exact hb
theorem drop_seq {K : PySem.W.Frag} {H : Hp} {cs : List Addr} {a : Addr} {xs : List V} (hc : ∀ c ∈ cs, ∃ o, H c = some (.frz o (.own 0))) (h : SqL K H a xs) : SqL K (dropA cs H) a xs := by
  rcases h with (h | ⟨o, h⟩) | h
  · exact .inl (.inl (drop_at hc h fun _ z => nomatch z))
  · exact .inl (.inr ⟨o, drop_at hc h fun _ z => by cases z⟩)
  · exact .inr h
theorem drop_tk {H : Hp} {cs : List Addr} (hc : ∀ c ∈ cs, ∃ o, H c = some (.frz o (.own 0))) : ∀ b ys, H b = some (.tup ys) → dropA cs H b = some (.tup ys) := fun b ys e => drop_at hc e fun _ z => nomatch z
theorem same_trkC {H H2 : Hp} {cs : List (Addr × Obj)} (hc : ∀ c o, cs.lookup c = some o → H c = some (.frz o (.own 0))) (s : Same (dropA (cs.map (·.1)) H) H2) : Same H (trkA cs H2) := fun b x e => by
  cases q : cs.lookup b with
  | some o =>
    have z := hc b o q
    rw [e] at z
    cases z
    exact trkA_in q
  | none =>
    rw [trkA_out q]
    refine s _ _ ?_
    rw [dropA_out fun m => by
      obtain ⟨o, ho⟩ := lk_mem.mp m
      rw [q] at ho; cases ho]
    exact e
theorem trk_atC {H2 : Hp} {cs : List (Addr × Obj)} {b : Addr} {x : HO} (n : ∀ d ∈ cs.map (·.1), H2 d = none) (e : H2 b = some x) : trkA cs H2 b = some x := by
  rw [trkA_out (lk_none fun m => by rw [n b m] at e; cases e)]
  exact e
theorem trk_new {H2 : Hp} {cs : List (Addr × Obj)} (n : ∀ d ∈ cs.map (·.1), H2 d = none) : Same H2 (trkA cs H2) := fun b x e => trk_atC n e
/-- closures of two cells -/
theorem ns2 {x y1 y2 : Str} {c1 c2 : Addr} {scope : Scope} (h1 : scope.kind = .function) (h2 : scope.isCoroutine = false) (h3 : scope.isGenerator = false) (h4 : ∀ z ∈ scope.names, z.2 ≠ .cell) (h5 : scope.names.lookup x = some .local) (h6 : scope.names.lookup y1 = some .free) (h7 : scope.names.lookup y2 = some .free) (h8 : scope.names.all (fun z => decide (z.2 = .free → z.1 = y1 ∨ z.1 = y2)) = true) : NsS x [(y1, c1), (y2, c2)] scope :=
  ⟨h1, h2, h3, h4, h5, fun z hz => by
    rcases List.mem_cons.mp hz with rfl | hz
    · exact h6
    · rw [List.map_cons, List.map_nil, List.mem_singleton] at hz; rw [hz]; exact h7, fun z hz => by
    rcases of_decide_eq_true (List.all_eq_true.mp h8 _ (PySem.mem_of_lookup hz)) rfl with e | e
    · exact List.mem_cons.mpr (.inl e)
    · exact List.mem_cons_of_mem _ (List.mem_singleton.mpr e)⟩
theorem inj2 {y1 y2 : Str} {c1 c2 : Addr} (n : c1 ≠ c2) : ∀ a b c, [(y1, c1), (y2, c2)].lookup a = some c → [(y1, c1), (y2, c2)].lookup b = some c → a = b := fun a b c h1 h2 => by
  have key : ∀ a, [(y1, c1), (y2, c2)].lookup a = some c → (a = y1 ∧ c = c1) ∨ (a = y2 ∧ c = c2) := fun a h => by
    rw [List.lookup_cons] at h
    by_cases e : a = y1
    · subst e; simp at h; exact .inl ⟨rfl, h.symm⟩
    · rw [beq_false_of_ne e] at h
      have h : List.lookup a [(y2, c2)] = some c := h
      rw [List.lookup_cons] at h
      by_cases e2 : a = y2
      · subst e2; simp at h; exact .inr ⟨rfl, h.symm⟩
      · rw [beq_false_of_ne e2] at h; cases h
  rcases key a h1 with ⟨e1, f1⟩ | ⟨e1, f1⟩ <;> rcases key b h2 with ⟨e2, f2⟩ | ⟨e2, f2⟩
  · rw [e1, e2]
  · exact absurd (f1.symm.trans f2) n
  · exact absurd (f2.symm.trans f1) n
  · rw [e1, e2]
/-- == of two pairs of ints -/
theorem eq_two {K : PySem.W.Frag} {H : Hp} {a b : Addr} {t1 b1 t2 b2 : Int} {Q : VK} (h1 : SqT K H a [.int t1, .int b1]) (h2 : SqT K H b [.int t2, .int b2]) (q : Q (.bl (decide ((t1, b1) = (t2, b2)))) H) : rEqT K (.ref a) (.ref b) H Q := by
  refine ⟨a, b, _, _, fun j => if j = 0 then eqV (.int t1) (.int t2) else eqV (.int b1) (.int b2), rfl, rfl, h1, h2, fun j x y hx hy => ?_, ?_⟩
  · match j, hx, hy with
    | 0, hx, hy => cases hx; cases hy; exact DEq.flat rfl rfl
    | 1, hx, hy => cases hx; cases hy; exact DEq.flat rfl rfl
    | j + 2, hx, _ => cases hx
  · have e : ((List.range (min 2 2)).all (fun j => if j = 0 then eqV (.int t1) (.int t2) else eqV (.int b1) (.int b2)) && (2 == 2)) = decide ((t1, b1) = (t2, b2)) := by
      show ((eqV (.int t1) (.int t2) && (eqV (.int b1) (.int b2) && true)) && true) = _
      simp [eqV, Prod.ext_iff]
      rfl
    show Q (.bl ((List.range (min 2 2)).all _ && (2 == 2))) H
    rw [e]
    exact q
end L2

namespace K64
open PySem PySem.Spec PyProof.Rows L2 GM TM BF BE
/-! ### asked_for -/
def stmtPos : Stmt → Pos
  | .FunctionDef _ _ _ _ _ _ _ _ _ p => p
  | _ => ⟨0, 0, 0, 0⟩
abbrev dSt : Stmt := inS sAskedFor 0
abbrev dSo : Stmt := inS sAskedFor 1
abbrev qSt : Str := "asked_for.<locals>.steps"
abbrev qSo : Str := "asked_for.<locals>.sought"
def okD (R : Int) (deep : Nat) (d : Nat) (k : NKey) : Prop := okM R d k ∧ d ≤ deep
theorem okB_D {ms : List Int} {R least : Int} {one : Int × Int} {deep most : Nat} (hm : ∀ m ∈ ms, 1 ≤ m ∧ m ≤ 1000) (hR : R ≤ 10000) (m1 : 1 ≤ most) (m2 : most ≤ 2000) : OkB (okD R deep) (bM ms R least one deep most) := ⟨fun d k h dd x hx => ⟨okM_step hm hR h.1 x hx, dd⟩, m1, m2⟩
section
variable {P : Program} {w : World} {K : PySem.W.Frag} {mg : Str → Option Value} {base : Heap}
theorem cells_frz {H : Hp} {cl : List (Str × Addr)} {cs : List (Addr × Obj)} {ws : List V} (C : Cells H cl cs ws) : ∀ c ∈ cs.map (·.1), ∃ o, H c = some (.frz o (.own 0)) := fun c m => by
  obtain ⟨o, ho⟩ := lk_mem.mp m
  exact ⟨o, C.frz c o ho⟩
theorem clo_steps {H : Hp} {f c1 c2 a : Addr} {cs : List (Addr × Obj)} {ms : List Int} {R least : Int} {one : Int × Int} {deep most : Nat} (F : FnN H f "steps" qSt (defArgs dSt) (defBody dSt) (defScope dSt) [("room", c2), ("measures", c1)]) (n : c2 ≠ c1) (C : Cells H [("room", c2), ("measures", c1)] cs [.int R, .ref a])
    (cSt : Cal P w K mg base CX0 4 "steps_from" ["measures", "room", "mixing"] (K64.spSteps K)) (hl : SqL K H a (ms.map V.int)) (mo : MsOk ms) (r0 : 0 ≤ R) (r1 : R ≤ 10000) (dp : deep ≤ 60) : Clo P w K mg base CX0 5 H f (BE.spSteps K (bM ms R least one deep most) (okD R deep)) := by
  refine clo_of (x := "mixing") (ns2 rfl rfl rfl (by decide +kernel) rfl rfl rfl (by decide +kernel)) (by show (["mixing", "room", "measures"] : List Str).Nodup; decide +kernel) (inj2 n) F C (fun _ _ _ _ _ => rfl) (fun vs H Q E h => ?_) (fun cd A oo s H' v Q E sm hr h => ?_)
  · obtain ⟨_, _, _, rfl, _⟩ := h
    rfl
  · refine ⟨_, (pss_one (ps_ret (pe_cal cSt hr rfl pass0 (pa_cons (pv 2) (pa_cons (pv 1) (pa_cons (pv 0) pa_nil)))))), ?_⟩
    obtain ⟨v', k, d, e, nv, ⟨ok, _⟩, dd, kk⟩ := h
    cases e
    have C' := C.keep sm
    have hc := cells_frz C'
    have ok' := ok
    obtain ⟨F', T, B, rfl, _⟩ := ok
    have dd : d < deep := dd
    obtain ⟨g0, g1, g2, g3, g4⟩ := ok'.bits (d := d) (by omega)
    obtain ⟨g, q, rfl, hg, hq⟩ := nv_at (nv.keep (drop_tk hc))
    refine ⟨_, rfl, _, rfl, _, rfl, a, g, ms, R, F', T, B, rfl, ⟨drop_seq hc (sm.seq hl), by have := mo.l3; omega, mo.b, ⟨r0, r1⟩, ⟨g0, by omega⟩, g2, g3, g4, q, hg, hq⟩, fun p H2 xs s2 np hp sl nn => ?_⟩
    have pn : H' p = none := by
      rw [← np]
      refine (dropA_out fun m => ?_).symm
      rw [nn p m] at hp
      cases hp
    refine kk p xs _ (same_trkC C'.frz s2) pn (trk_atC nn hp) ?_
    show EdX K _ xs (eM ms R (keyM F' T B))
    rw [eM_key]
    exact (edx_of sl).keep fun b ys e => trk_atC nn e
theorem clo_sought {H : Hp} {f c1 c2 b : Addr} {cs : List (Addr × Obj)} {ms : List Int} {R least : Int} {one : Int × Int} {deep most : Nat} (F : FnN H f "sought" qSo (defArgs dSo) (defBody dSo) (defScope dSo) [("one", c1), ("least", c2)]) (n : c1 ≠ c2) (C : Cells H [("one", c1), ("least", c2)] cs [.ref b, .int least])
    (cS : Cal P w K mg base CX0 4 "strength" ["mixing"] (spStr K)) (hb : SqZ K H b [.int one.1, .int one.2]) (l1 : 1 ≤ least) (r1 : R ≤ 10000) (dp : deep ≤ 60) : Clo P w K mg base CX0 5 H f (BE.spSought K (bM ms R least one deep most) (okD R deep)) := by
  refine clo_of (x := "mixing") (ns2 rfl rfl rfl (by decide +kernel) rfl rfl rfl (by decide +kernel)) (by show (["mixing", "one", "least"] : List Str).Nodup; decide +kernel) (inj2 n) F C (fun _ _ _ _ _ => rfl) (fun vs H Q E h => ?_) (fun cd A oo s H' v Q E sm hr h => ?_)
  · obtain ⟨_, _, _, rfl, _⟩ := h
    rfl
  · refine ⟨_, (pss_one (ps_ret (pe_and (pe_cmpR op_ge (pit 0 0) (pv 2) (nomark _)) (pe_one (pe_cmpR (op_eqT hr.units) (pe_cal cS hr rfl pass0 (pa_cons (pv 0) pa_nil)) (pv 1) (nomark _)))))), ?_⟩
    obtain ⟨v', k, d, e, nv, ⟨ok, dd⟩, kk⟩ := h
    cases e
    have C' := C.keep sm
    have hc := cells_frz C'
    have ok' := ok
    obtain ⟨F', T, B, rfl, _⟩ := ok
    obtain ⟨g0, g1, g2, g3, g4⟩ := ok'.bits (d := d) (by omega)
    obtain ⟨g, q, rfl, hg, hq⟩ := nv_at (nv.keep (drop_tk hc))
    have gk : (bM ms R least one deep most).goal (keyM F' T B) = (decide (least ≤ F') && decide ((lt' T (B * F'), lb' T (B * F')) = one)) := rfl
    rw [gk] at kk
    refine ⟨g, _, _, rfl, hg.sq, rfl, _, rfl, _, _, rfl, rfl, _, rfl, ?_⟩
    by_cases lf : least ≤ F'
    · have e1 : decide (F' ≥ least) = true := decide_eq_true lf
      have e2 : decide (least ≤ F') = true := decide_eq_true lf
      rw [e1]
      rw [e2, Bool.true_and] at kk
      refine iteT ⟨_, rfl, g, q, F', T, B, rfl, hg, hq, g2, g3, g4, by omega, by omega, fun p H2 s2 hp => ⟨_, rfl, eq_two hp.sq (LK.sz_keep (LK.sz_keep (LK.sz_keep hb fun b ys => sm _ _) (drop_tk hc)) fun b ys => s2 _ _).sq fun nn => ?_⟩⟩
      exact kk _ (same_trkC C'.frz s2)
    · have e1 : decide (F' ≥ least) = false := decide_eq_false lf
      have e2 : decide (least ≤ F') = false := decide_eq_false lf
      rw [e1]
      rw [e2, Bool.false_and] at kk
      exact iteF fun nn => kk _ (same_trkC C'.frz (Same.refl _))
end
end K64

namespace K64
open PySem PySem.Spec PyProof.Rows L2 GM TM BF BE
/-! ### asked_for -/
/-- the tables of asked_for and of rising -/
structure Tb (H : Hp) (T1 T2 : Addr) : Prop where
  a : LamT2 H T1 qSt qSo (stmtPos dSt) (stmtPos dSo)
  b : LamT H T2 lamQ lamP
  n : T1 ≠ T2
theorem Tb.keep {H H' : Hp} {T1 T2 : Addr} (h : Tb H T1 T2) (s : Same H H') : Tb H' T1 T2 := ⟨h.a.keep s, h.b.keep s, h.n⟩
def m3 : NKey → M3
  | (.inl F, [.inl T, .inl B]) => (F, T, B)
  | _ => (0, 0, 1)
/-- the mixings of rows with spoons enough -/
def msOf (least : Int) (rows : List Rx) : List M3 := (rows.filter fun r => decide (least ≤ (m3 r.1).1)).map fun r => m3 r.1
def OutA (K : PySem.W.Frag) (E0 : NKey → List (Dd × NKey)) (T1 T2 cM : Addr) (least : Int) (most : Nat) (H : Hp) (Q : VK) (E : XK) : Rz → Prop
  | .found rows => ∀ z l ds H', SmN H H' → Tb H' T1 T2 → H' z = some (.tup [.str "made", .ref l]) → H' l = some (.lst ds) → (∀ rs s, rows = rs ++ [s] → ∃ dd : List Dd, dd.length = s.2.1 ∧ Dds K H' ds dd ∧ Pth E0 (keyM 0 0 1) dd s.1) → Q (.ref z) H'
  | .none rows => Few (msOf least rows) ∧ ∀ z l ys fr H', SmN H H' → Tb H' T1 T2 → H' z = some (.tup [.str "none", .ref l]) → H' l = some (.lst ys) → FrZ K H' ys fr → (∀ x, x ∈ fr ↔ ∃ m ∈ msOf least rows, stM m = x) → (∀ x ∈ fr, AmB x) → fr.Pairwise Lf → Q (.ref z) H'
  | .many => ∀ dx H', SmN H H' → Tb H' T1 T2 → H' dx = some (xdE dx [("most", .int (most : Nat))]) → E (.ref cM) (some dx) H'
def spAsked (K : PySem.W.Frag) (T1 T2 cM : Addr) : Sp := fun vs H Q E => ∃ (a b : Addr) (ms : List Int) (R least : Int) (one : Int × Int) (deep most : Nat), vs = [.ref a, .int R, .ref b, .int least, .int ((deep : Nat) : Int), .int ((most : Nat) : Int)] ∧ Tb H T1 T2 ∧ SqL K H a (ms.map V.int) ∧ MsOk ms ∧ 0 ≤ R ∧ R ≤ 10000 ∧ SqZ K H b [.int one.1, .int one.2] ∧ 1 ≤ least ∧ deep ≤ 60 ∧ 1 ≤ most ∧ most ≤ 2000 ∧
  OutA K (eM ms R) T1 T2 cM least most H Q E (bfs (bM ms R least one deep most) (keyM 0 0 1))
/-- the rows' mixings may be handed on -/
theorem rows_ok {ms : List Int} {R least : Int} {one : Int × Int} {deep most : Nat} (hm : ∀ m ∈ ms, 1 ≤ m ∧ m ≤ 1000) (r0 : 0 ≤ R) (hR : R ≤ 10000) (dp : deep ≤ 60) {k : NKey} : ∀ {n : Nat}, n ≤ deep → k ∈ lay (bM ms R least one deep most) (keyM 0 0 1) n → okM R n k
  | 0, _, h => by rw [List.mem_singleton.mp h]; exact okM_first r0
  | n + 1, hn, h => by
    obtain ⟨k', x, h1, h2, rfl⟩ := lay_prev h
    exact okM_step hm hR (rows_ok hm r0 hR dp (by omega) h1) x h2
theorem okM.mx {R : Int} {d : Nat} {k : NKey} {least : Int} (hd : d ≤ 60) (hR : R ≤ 10000) (h : okM R d k) (l1 : 1 ≤ least) (l : least ≤ (m3 k).1) : MxOk (m3 k) := by
  have h' := h
  obtain ⟨F, T, B, rfl, _⟩ := h
  obtain ⟨g0, g1, g2, g3, g4⟩ := h'.bits hd
  have l : least ≤ F := l
  exact ⟨by show 1 ≤ F; omega, by show F ≤ 10000; omega, g2, g3, g4⟩
theorem okM.key {R : Int} {d : Nat} {k : NKey} (h : okM R d k) : k = keyM (m3 k).1 (m3 k).2.1 (m3 k).2.2 := by
  obtain ⟨F, T, B, rfl, _⟩ := h
  rfl
def LnB (B : Pr) : Rz → Prop
  | .found rows => rows.length ≤ B.most
  | .none rows => rows.length ≤ B.most
  | .many => True
def LnI (B : Pr) : List Rx ⊕ Rz → Prop
  | .inl rs => rs.length ≤ B.most
  | .inr x => LnB B x
theorem inner_ln {B : Pr} {p d : Nat} : ∀ (es : List (Dd × NKey)) (rows : List Rx), rows.length ≤ B.most → LnI B (inner B p d rows es)
  | [], rows, h => h
  | x :: es, rows, h => by
    rw [inner_cons]
    split
    · exact inner_ln es rows h
    · split
      · trivial
      · have l1 : ∀ r, (rows ++ [r]).length ≤ B.most := fun r => by rw [List.length_append]; show rows.length + 1 ≤ _; omega
        split
        · exact l1 _
        · exact inner_ln es _ (l1 _)
theorem outer_ln {B : Pr} : ∀ (n : Nat) (rows : List Rx) (p : Nat), rows.length ≤ B.most → LnB B (outer B n rows p)
  | 0, rows, p, h => h
  | n + 1, rows, p, h => by
    by_cases pl : p < rows.length
    · obtain ⟨r, hr⟩ : ∃ r, rows[p]? = some r := ⟨_, List.getElem?_eq_getElem pl⟩
      rw [outer_at hr]
      split
      · have q := inner_ln (B := B) (p := p) (d := r.2.1) (B.E r.1) rows h
        revert q
        cases inner B p r.2.1 rows (B.E r.1) with
        | inl rs => exact fun q => outer_ln n rs (p + 1) q
        | inr x => exact fun q => q
      · exact h
    · rw [outer_end (by omega)]
      exact h
theorem bfs_ln {B : Pr} {k0 : NKey} (m1 : 1 ≤ B.most) : LnB B (BE.bfs B k0) := by
  unfold BE.bfs
  split
  · exact m1
  · exact outer_ln _ _ _ m1
theorem paired_mapM {α β γ : Type} {R : α → β → Prop} {S : α → γ → Prop} {f : β → γ} {l : List α} {m : List β} (h : Paired R l m) (hf : ∀ a b, b ∈ m → R a b → S a (f b)) : Paired S l (m.map f) := by
  induction h with
  | nil => exact .nil
  | cons h _ ih => exact .cons (hf _ _ (List.mem_cons_self ..) h) (ih fun a b hb => hf a b (List.mem_cons_of_mem _ hb))
theorem same_drop {H H1 H2 : Hp} {cs : List (Addr × Obj)} (n : ∀ c ∈ cs.map (·.1), H c = none) (s : Same (trkA cs H) H2) : Same H (dropA (cs.map (·.1)) H2) := fun b x e => by
  have nb : b ∉ cs.map (·.1) := fun m => by rw [n b m] at e; cases e
  rw [dropA_out nb]
  exact s _ _ (by rw [trkA_out (lk_none nb)]; exact e)
theorem drop_of {H2 : Hp} {cs : List (Addr × Obj)} {b : Addr} {x : HO} (hc : ∀ c o, cs.lookup c = some o → H2 c = some (.frz o (.own 0))) (e : H2 b = some x) (n : ∀ o, x ≠ .frz o (.own 0)) : dropA (cs.map (·.1)) H2 b = some x := drop_at (fun c m => by obtain ⟨o, ho⟩ := lk_mem.mp m; exact ⟨o, hc c o ho⟩) e n
section
variable {P : Program} {w : World} {K : PySem.W.Frag} {mg : Str → Option Value} {base : Heap} {cM aE aE1 T1 T2 : Addr}
abbrev Nas : List Str := ["measures", "room", "one", "least", "deepest", "most", "steps", "sought", "told", "rows"]
theorem scAsk : FnScope Nas ["measures", "room", "one", "least", "deepest", "most"] (defScope sAskedFor) := ⟨rfl, rfl, rfl, by decide +kernel, rfl, by decide +kernel, by decide +kernel⟩
theorem ndRl : (["row", "least"] : List Str).Nodup := by decide +kernel
theorem ok_asked {f dT c : Addr} {oc kV doc pm ct : Value} {od an : Option Addr} {osl : Array (Option Value)} (lk : K.lookup f = some ⟨oc, od, .func (PySem.W.fnOf "asked_for" "asked_for" (defArgs sAskedFor) (defBody sAskedFor) (defScope sAskedFor) (.ref dT) kV doc pm an (.ref c) ct), osl⟩) (hcd : PySem.W.codeIn K (.ref c) "asked_for" = true)
    (B : LamB mg base c T1) (mE : mg "EMPTY_MIXING" = some (.ref aE)) (sE : ∀ H : Hp, SqZ K H aE [.int 0, .ref aE1]) (sE1 : ∀ H : Hp, SqZ K H aE1 [.int 0, .int 1]) (cSt : Cal P w K mg base CX0 4 "steps_from" ["measures", "room", "mixing"] (K64.spSteps K)) (cS : Cal P w K mg base CX0 4 "strength" ["mixing"] (spStr K))
    (cSp : Cal P w K mg base (CXg P w) 7 "spread" ["first", "steps", "sought", "deepest", "most"] (spSpread P w K mg base cM)) (cW : Cal P w K mg base CX0 1 "way_to" ["rows", "place"] (spWayTo K)) (cO : Cal P w K mg base CX0 5 "strengths_of" ["mixings"] (spStrOf K T2)) :
    FnOk P w K mg base (CXg P w) 8 f (PySem.W.fnOf "asked_for" "asked_for" (defArgs sAskedFor) (defBody sAskedFor) (defScope sAskedFor) (.ref dT) kV doc pm an (.ref c) ct) ["measures", "room", "one", "least", "deepest", "most"] (spAsked K T1 T2 cM) := by
  refine fn_of lk hcd scAsk (fun vs H Q E h => ?_) fun A oo s H vs Q E hr hsp => ?_
  · obtain ⟨_, _, _, _, _, _, _, _, rfl, _⟩ := h
    rfl
  · obtain ⟨a, b, ms, R, least, one, deep, most, rfl, tb, hl, mo, r0, r1, hb, l1, dp, m1, m2, out⟩ := hsp
    refine ⟨_, (pss_cons (ps_def (name := "steps") (qual := qSt) (cl := [("room", s.heap.objs.size + 2), ("measures", s.heap.objs.size + 1)]) (i := 6) (c := c) (P := T1) scAsk.nd rfl rfl B rfl rfl rfl rfl rfl rfl)
      (pss_cons (ps_def (name := "sought") (qual := qSo) (cl := [("one", s.heap.objs.size + 3), ("least", s.heap.objs.size + 4)]) (i := 7) (c := c) (P := T1) scAsk.nd rfl rfl B rfl rfl rfl rfl rfl rfl)
      (pss_cons (ps_set (i := 8) scAsk.nd rfl (Or.inl rfl) (pe_lend (cl := [("room", s.heap.objs.size + 2), ("measures", s.heap.objs.size + 1), ("one", s.heap.objs.size + 3), ("least", s.heap.objs.size + 4)]) (js := [1, 0, 2, 3]) cSp hr rfl pass_f (.cons rfl rfl rfl rfl (.cons rfl rfl rfl rfl (.cons rfl rfl rfl rfl (.cons rfl rfl rfl rfl .nil)))) (pa_cons (pe_glob (v := .ref aE) rfl mE rfl) (pa_cons (pv 6) (pa_cons (pv 7) (pa_cons (pv 4) (pa_cons (pv 5) pa_nil)))))))
      (pss_cons (ps_set (i := 9) scAsk.nd rfl (Or.inl rfl) (pit 8 0))
      (pss_cons (ps_if (pt_cmpR op_notN (pit 8 1) pe_non (nomark _))
        (pss_one (ps_ret (pe_tup (pa_cons pe_str (pa_cons (pe_cal cW (hr.mono (by decide)) rfl pass0 (pa_cons (pv 9) (pa_cons (pit 8 1) pa_nil))) pa_nil)))))
        pss_nil)
      (pss_one (ps_ret (pe_tup (pa_cons pe_str (pa_cons (pe_cal cO (hr.mono (by decide)) rfl pass0 (pa_cons (pe_compC (N' := ["row", "least"]) (fun σ => [none, some 3].map fun t => t.bind fun j => (σ[j]?).join) rfl rfl (by decide +kernel) (by decide +kernel)
          (hk_of (sc := defScope sAskedFor) rfl (by decide +kernel)) (fun _ _ _ => blkN_by (sc := defScope sAskedFor) (N := Nas) [none, some 3] rfl rfl rfl rfl (by decide +kernel))
          (pi_list (pv 9)) (fun _ _ _ _ _ _ => pg_name (i := 0) ndRl rfl (Or.inl rfl)) (fun _ _ _ _ _ _ => pifs_one (pt_cmpR op_ge (pe_ix (ix_tupK (K := K) rfl) (pe_ix (ix_tupK (K := K) rfl) (pv 0) pe_int (fun _ _ => rfl)) pe_int (fun _ _ => rfl)) (pv 1) (nomark _))) (fun _ _ _ _ _ _ => pe_ix (ix_tupK (K := K) rfl) (pv 0) pe_int (fun _ _ => rfl))) pa_nil)) pa_nil)))))))))), ?_⟩
    refine defs2 (by decide +kernel) tb.a fun f1 f2 H1 sb1 lt1 fn1 fn2 => ?_
    obtain ⟨ps0, hps0⟩ := tb.a.at
    have sm1 : SmN H H1 := SmN.ofT sb1 hps0
    have tb1 : Tb H1 T1 T2 := ⟨lt1, lamT_b tb.b sb1 (Ne.symm tb.n) hps0, tb.n⟩
    have hl1 := sm1.seq hl
    have hb1 := LK.sz_keep hb sm1.tk
    refine ⟨_, rfl, _, rfl, _, rfl, _, rfl, [.int R, .ref a, .ref b, .int least], rfl, fun cs ec C nn => ?_⟩
    have sT : Same H1 (trkA cs H1) := trk_new nn
    have hcz := C.frz
    -- the two functions
    have C1 : ∃ cs1, Cells (trkA cs H1) [("room", s.heap.objs.size + 2), ("measures", s.heap.objs.size + 1)] cs1 [.int R, .ref a] := by
      cases C with
      | cons h1 h2 h3 t =>
        cases t with
        | cons h4 h5 h6 t => exact ⟨_, .cons h1 h2 h3 (.cons h4 h5 h6 .nil)⟩
    have C2 : ∃ cs2, Cells (trkA cs H1) [("one", s.heap.objs.size + 3), ("least", s.heap.objs.size + 4)] cs2 [.ref b, .int least] := by
      cases C with
      | cons h1 h2 h3 t =>
        cases t with
        | cons h4 h5 h6 t => exact ⟨_, t⟩
    obtain ⟨cs1, C1⟩ := C1
    obtain ⟨cs2, C2⟩ := C2
    have k1 := clo_steps (least := least) (one := one) (most := most) (fn1.n fun b o u => sT _ _) (Nat.ne_of_gt (Nat.lt_succ_self _)) C1 cSt (sT.seq hl1) mo r0 r1 dp
    have k2 := clo_sought (ms := ms) (R := R) (most := most) (fn2.n fun b o u => sT _ _) (Nat.ne_of_lt (Nat.lt_succ_self _)) C2 cS (LK.sz_keep hb1 fun b ys => sT _ _) l1 r1 dp
    refine ⟨.ref aE, f1, f2, keyM 0 0 1, okD R deep, bM ms R least one deep most, rfl, okB_D mo.b r1 m1 m2, nv_of (sE _) (sE1 _), ⟨okM_first r0, Nat.zero_le _⟩, k1, k2, ?_⟩
    have po := bfs_po (B := bM ms R least one deep most) (k0 := keyM 0 0 1) m1
    have pa := bfs_pae (B := bM ms R least one deep most) (k0 := keyM 0 0 1)
    have pn := bfs_ln (B := bM ms R least one deep most) (k0 := keyM 0 0 1) m1
    -- what is told, and the cells taken back
    have back : ∀ {H2 : Hp}, Same (trkA cs H1) H2 → SmN H (dropA (cs.map (·.1)) H2) ∧ Tb (dropA (cs.map (·.1)) H2) T1 T2 ∧ ∀ c o, cs.lookup c = some o → H2 c = some (.frz o (.own 0)) := fun {H2} s2 => by
      have sd : Same H1 (dropA (cs.map (·.1)) H2) := same_drop (H1 := H1) nn s2
      exact ⟨sm1.trans (.of sd), tb1.keep sd, fun c o z => s2 _ _ (hcz c o z)⟩
    revert out po pa pn
    cases bfs (bM ms R least one deep most) (keyM 0 0 1) with
    | many =>
      intro out _ _ _ dx H2 s2 hx
      obtain ⟨b1, b2, b3⟩ := back s2
      exact out dx _ b1 b2 (drop_of b3 hx fun _ z => nomatch z)
    | found rows =>
      intro out po pa pn z l vs H2 s2 hz hv rw2
      obtain ⟨b1, b2, b3⟩ := back s2
      have hz' := drop_of b3 hz fun _ z => nomatch z
      have hv' := drop_of b3 hv fun _ z => nomatch z
      have rw' := rw2.keep fun b ys e => drop_of b3 e fun _ z => nomatch z
      obtain ⟨rs, sl, d, er, ed, _⟩ := po
      have pa : PaeOk (bM ms R least one deep most) (keyM 0 0 1) rows := pa
      have pn : rows.length ≤ most := pn
      have el : ((rows.length : Nat) - 1 : Int) = ((rs.length : Nat) : Int) := by rw [er, List.length_append, List.length_singleton]; omega
      rw [el] at hz'
      refine ⟨z, _, _, rfl, SqT.of hz', rfl, z, _, _, rfl, SqT.of hz', rfl, rfl, _, rfl, iteT ⟨_, rfl, z, _, _, rfl, SqT.of hz', rfl, l, rs.length, vs, rows, sl, bM ms R least one deep most, keyM 0 0 1, rfl, hv', rw', pa, ?_, by omega, fun p ds dd H3 s3 np hp dl dv pth => ⟨(by show 2 ≤ sizeLine; decide), fun zz nz => ?_⟩⟩⟩
      · rw [er, List.getElem?_concat_length]
      · have s4 := Same.upd (o := .tup [.str "made", .ref p]) nz
        refine out zz p ds _ (b1.trans (.of (s3.trans s4))) (b2.keep (s3.trans s4)) upd_same (s4 _ _ hp) fun rs' s' e => ?_
        rw [er] at e
        have := List.append_inj_right' e rfl
        injection this with this _
        rw [← this]
        exact ⟨dd, dl, dv.keep fun b ys => s4 _ _, pth⟩
    | none rows =>
      intro out po pa pn z l vs H2 s2 hz hv rw2
      obtain ⟨b1, b2, b3⟩ := back s2
      have hz' := drop_of b3 hz fun _ z => nomatch z
      have hv' := drop_of b3 hv fun _ z => nomatch z
      have rw' := rw2.keep fun b ys e => drop_of b3 e fun _ z => nomatch z
      have pn : rows.length ≤ most := pn
      obtain ⟨cand, out⟩ := out
      obtain ⟨po1, _⟩ := po
      have okr : ∀ r ∈ rows, okM R r.2.1 r.1 ∧ r.2.1 ≤ 60 := fun r hr => by
        obtain ⟨h1, h2⟩ := po1 r hr
        have h1 : r.2.1 ≤ deep := h1
        exact ⟨rows_ok mo.b r0 r1 dp h1 h2, by omega⟩
      have vl := rw'.len
      refine ⟨z, _, _, rfl, SqT.of hz', rfl, z, _, _, rfl, SqT.of hz', rfl, rfl, _, rfl, iteF ⟨_, rfl, l, rfl, ⟨_, SqL.of hv'⟩, fun D nD => ?_⟩⟩
      refine comp_pair (Ys.list (SqL.of hv')) rows vl (fun r => decide (least ≤ (m3 r.1).1)) (fun r y H => NV K H y r.1) (fun _ _ _ _ h t => h.keep t) nD (by omega) (fun i v r H3 R1 R2 hv3 hr3 sm3 q1 q2 => ?_) (fun ys H3 s3 hD3 pr => ?_)
      · obtain ⟨_, hv4, ra, u, dd, rfl, hra, nvu, _⟩ := BF.paired_at rw' hr3
        rw [hv3] at hv4
        cases hv4
        have ok := (okr r (List.mem_of_getElem? hr3)).1
        have nv3 := nvu.keep fun b ys => sm3 _ _
        have nv3' := nv3
        rw [ok.key] at nv3'
        obtain ⟨g, q, rfl, hg, hq⟩ := nv_at nv3'
        have hra3 := SqT.of (K := K) (sm3 _ _ hra)
        refine ⟨(Keep.refl _).set rfl, _, rfl, ra, _, 0, .ref g, rfl, rfl, hra3, rfl, g, _, 0, .int (m3 r.1).1, rfl, rfl, hg.sq, rfl, _, rfl, _, _, rfl, rfl, _, rfl, ?_⟩
        by_cases lf : least ≤ (m3 r.1).1
        · have e1 : decide ((m3 r.1).1 ≥ least) = true := decide_eq_true lf
          rw [e1]
          exact iteT ⟨_, rfl, ra, _, 0, .ref g, rfl, rfl, hra3, rfl, q1 (decide_eq_true lf) _ _ (Same.refl _) nv3⟩
        · have e1 : decide ((m3 r.1).1 ≥ least) = false := decide_eq_false lf
          rw [e1]
          exact iteF (q2 (decide_eq_false lf) _ (Same.refl _))
      · have mem : ∀ {r : Rx}, r ∈ rows.filter (fun r => decide (least ≤ (m3 r.1).1)) → r ∈ rows ∧ least ≤ (m3 r.1).1 := fun h => ⟨(List.mem_filter.mp h).1, of_decide_eq_true (List.mem_filter.mp h).2⟩
        have nvs : NVs K H3 ys (msOf least rows) := paired_mapM pr fun y r hr nv => by
          have := (okr r (mem hr).1).1.key
          rw [← this]
          exact nv
        refine ⟨D, ys, msOf least rows, rfl, SqL.of hD3, nvs, fun m hm => ?_, cand, b2.b.keep s3, fun p zs fr H4 sb4 l4 np hp fz mem am pw => ⟨(by show 2 ≤ sizeLine; decide), fun zz nz => ?_⟩⟩
        · obtain ⟨r, hr, rfl⟩ := List.mem_map.mp hm
          exact (okr r (mem hr).1).1.mx (okr r (mem hr).1).2 r1 l1 (mem hr).2
        · have s5 := Same.upd (o := .tup [.str "none", .ref p]) nz
          have b3 := b2.keep s3
          have sm4 := SmN.ofB sb4 b3.b
          have tb4 : Tb H4 T1 T2 := ⟨b3.a.b (T2 := T2) sm4 fun ps e => sb4 _ _ b3.n e, l4, b3.n⟩
          exact out zz p zs fr _ (b1.trans ((SmN.of s3).trans (sm4.trans (.of s5)))) (tb4.keep s5) upd_same (s5 _ _ hp) (fz.keep fun b ys => s5 _ _) mem am pw
end
end K64

namespace K64
open PySem PySem.Spec PyProof.Rows L2 GM TM BF BE
/-! ### layers -/
def lyr (ms : List Int) (R : Int) (i : Nat) : List NKey := lay (bM ms R 1 (0, 1) 0 1) (keyM 0 0 1) i
theorem lyr_succ (ms : List Int) (R : Int) (i : Nat) : lyr ms R (i + 1) = (lyr ms R i).flatMap fun k => (eM ms R k).map (·.2) := rfl
theorem lay_lyr {ms : List Int} {R least : Int} {one : Int × Int} {deep most : Nat} : ∀ i, lay (bM ms R least one deep most) (keyM 0 0 1) i = lyr ms R i
  | 0 => rfl
  | i + 1 => by
    rw [lyr_succ, ← lay_lyr (least := least) (one := one) (deep := deep) (most := most) i]
    rfl
theorem lyr_ok {ms : List Int} {R : Int} (hm : ∀ m ∈ ms, 1 ≤ m ∧ m ≤ 1000) (r0 : 0 ≤ R) (hR : R ≤ 10000) {k : NKey} : ∀ {n : Nat}, k ∈ lyr ms R n → okM R n k
  | 0, h => by rw [List.mem_singleton.mp h]; exact okM_first r0
  | n + 1, h => by
    obtain ⟨k', x, h1, h2, rfl⟩ := lay_prev h
    exact okM_step hm hR (lyr_ok hm r0 hR h1) x h2
theorem eM_len' {ms : List Int} {R : Int} {d : Nat} {k : NKey} (h : ms.length ≤ 3) (ok : okM R d k) : (eM ms R k).length ≤ 9 := by
  rw [ok.key]
  exact eM_len h
def NVk (K : PySem.W.Frag) (H : Hp) (xs : List V) (ks : List NKey) : Prop := Paired (fun v k => NV K H v k) xs ks
end K64

namespace K64
open PySem PySem.Spec PyProof.Rows L2 GM TM BF BE
/-! ### how many strengths there are -/
def val (x : Int × Int) : Rat := (x.1 : Rat) / (x.2 : Rat)
def ful (k : NKey) : Rat := ((m3 k).1 : Rat)
def avl (k : NKey) : Rat := val (m3 k).2
theorem ipos {n : Int} (h : 1 ≤ n) : (0 : Rat) < (n : Rat) := by exact_mod_cast (by omega : 0 < n)
theorem ine {n : Int} (h : 1 ≤ n) : (n : Rat) ≠ 0 := fun e => by
  have := ipos h
  rw [e] at this
  exact absurd this (by decide)
theorem q1 {x y t b : Rat} (hy : y ≠ 0) (hb : b ≠ 0) (c : x * b = t * y) : x / y = t / b := by grind
theorem q2 {x y t b : Rat} (hy : y ≠ 0) (hb : b ≠ 0) (c : x / y = t / b) : x * b = t * y := by grind
theorem q3 {t b f : Rat} : t / (b * f) = t / b / f := by grind
theorem q4 {t b m : Rat} (hb : b ≠ 0) : (t + m * b) / b = t / b + m := by grind
theorem q5 {t b f m : Rat} : (t * (f - m)) / (b * f) = t / b * (f - m) / f := by grind
theorem low_val {t b : Int} (h0 : 0 ≤ t) (h1 : 1 ≤ b) : val (lt' t b, lb' t b) = (t : Rat) / (b : Rat) := by
  have a := low_amt h0 h1
  have c := low_cross t b
  refine q1 (ine a.b1) (ine h1) ?_
  have : ((lt' t b * b : Int) : Rat) = ((t * lb' t b : Int) : Rat) := by rw [show lt' t b * b = t * lb' t b from c]
  rwa [Rat.intCast_mul, Rat.intCast_mul] at this
theorem val_inj {x y : Int × Int} (hx : AmB x) (hy : AmB y) (h : val x = val y) : x = y := by
  have c := q2 (ine hx.a.b1) (ine hy.a.b1) h
  rw [← Rat.intCast_mul, ← Rat.intCast_mul] at c
  have c : x.1 * y.2 = y.1 * x.2 := by exact_mod_cast c
  obtain ⟨e1, e2⟩ := amt_unique hx.a hy.a c
  exact Prod.ext e1 e2
theorem few_of {ms : List M3} (ok : ∀ m ∈ ms, MxOk m) {cs : List Rat} (l : cs.length < 64) (h : ∀ m ∈ ms, val (stM m) ∈ cs) : Few ms := fun fr nd hf => by
  have am : ∀ x ∈ fr, AmB x := fun x hx => by
    obtain ⟨m, hm, rfl⟩ := hf x hx
    exact (ok m hm).st
  have nd2 : (fr.map val).Nodup := List.pairwise_map.mpr (List.Pairwise.imp_of_mem (fun {x y} hx hy n e => n (val_inj (am x hx) (am y hy) e)) nd)
  have := nodup_len _ cs nd2 fun v hv => by
    obtain ⟨x, hx, rfl⟩ := List.mem_map.mp hv
    obtain ⟨m, hm, rfl⟩ := hf x hx
    exact h m hm
  rw [List.length_map] at this
  omega
/-- a step -/
theorem step_val {ms : List Int} {R : Int} {d : Nat} {k : NKey} (hm : ∀ m ∈ ms, 1 ≤ m ∧ m ≤ 1000) (ok : okM R d k) {x : Dd × NKey} (hx : x ∈ eM ms R k) : ∃ m ∈ ms, (ful x.2 = ful k + (m : Rat) ∧ (avl x.2 = avl k + (m : Rat) ∨ avl x.2 = avl k)) ∨ (m ≤ (m3 k).1 ∧ ful x.2 = ful k - (m : Rat) ∧ avl x.2 = avl k * (ful k - (m : Rat)) / ful k) := by
  obtain ⟨F, T, B, rfl, f0, fR, am, _⟩ := ok
  obtain ⟨m, mm, hc⟩ := eM_mem hx
  have m1 := (hm m mm).1
  have b1 := am.b1
  have t0 := am.t0
  have mB : 0 ≤ m * B := Int.mul_nonneg (by omega) (by omega)
  refine ⟨m, mm, ?_⟩
  rcases hc with ⟨_, rfl | rfl⟩ | ⟨mf, rfl⟩
  · refine .inl ⟨?_, .inl ?_⟩
    · show ((F + m : Int) : Rat) = (F : Rat) + m
      exact Rat.intCast_add ..
    · show val (lt' (T + m * B) B, lb' (T + m * B) B) = (T : Rat) / (B : Rat) + m
      rw [low_val (by omega) b1, Rat.intCast_add, Rat.intCast_mul]
      exact q4 (ine b1)
  · refine .inl ⟨?_, .inr rfl⟩
    show ((F + m : Int) : Rat) = (F : Rat) + m
    exact Rat.intCast_add ..
  · have p1 : 0 ≤ T * (F - m) := Int.mul_nonneg t0 (by omega)
    have p2 : 1 ≤ B * F := by
      have := Int.mul_le_mul b1 (show 1 ≤ F by omega) (by decide) (by omega)
      omega
    refine .inr ⟨mf, ?_, ?_⟩
    · show ((F - m : Int) : Rat) = (F : Rat) - m
      exact Rat.intCast_sub ..
    · show val (lt' (T * (F - m)) (B * F), lb' (T * (F - m)) (B * F)) = (T : Rat) / (B : Rat) * ((F : Rat) - m) / (F : Rat)
      rw [low_val p1 p2, Rat.intCast_mul, Rat.intCast_mul, Rat.intCast_sub]
      exact q5
theorem st_val {k : NKey} (h : MxOk (m3 k)) : val (stM (m3 k)) = avl k / ful k := by
  have p2 : 1 ≤ (m3 k).2.2 * (m3 k).1 := by
    have := Int.mul_le_mul h.am.b1 h.f1 (by decide) (by have := h.am.b1; omega)
    omega
  show val (lt' _ _, lb' _ _) = _
  rw [low_val h.am.t0 p2, Rat.intCast_mul]
  exact q3
/-! at most two steps, or three of two measures -/
theorem z1 {x : Rat} (h : x ≠ 0) : x / x = 1 := by grind
theorem z2 {x : Rat} : (0 : Rat) / x = 0 := by grind
theorem z3 {x y : Rat} (h : x ≠ 0) : x * (x - y) / x = x - y := by grind
theorem z4 {x y : Rat} : (0 : Rat) * (x - y) / x = 0 := by grind
theorem z5 {x y z : Rat} (h : x + y ≠ 0) (h2 : x + y - z ≠ 0) : x * (x + y - z) / (x + y) / (x + y - z) = x / (x + y) := by grind
def rats (ms : List Int) : List Rat := ms.map fun (m : Int) => (m : Rat)
def c2 (rs : List Rat) : List Rat := [0, 1] ++ rs.flatMap fun x => rs.map fun y => x / (x + y)
def f2 (rs : List Rat) : List Rat := rs.flatMap fun x => rs.flatMap fun y => [x + y, x - y]
def c3 (rs : List Rat) : List Rat := c2 rs ++ ((f2 rs).flatMap fun f => rs.flatMap fun z => [f / (f + z), z / (f + z)]) ++ rs.flatMap fun x => rs.flatMap fun y => rs.flatMap fun z => [(x + z) / (x + y + z), x / (x + y + z)]
def D1 (rs : List Rat) (k : NKey) : Prop := ∃ x ∈ rs, ful k = x ∧ (avl k = x ∨ avl k = 0)
def D2 (rs : List Rat) (k : NKey) : Prop := (∃ f ∈ f2 rs, ful k = f ∧ (avl k = f ∨ avl k = 0)) ∨ ∃ x ∈ rs, ∃ y ∈ rs, ful k = x + y ∧ avl k = x
section
variable {ms : List Int} {R : Int}
theorem rat_mem {m : Int} (h : m ∈ ms) : (m : Rat) ∈ rats ms := List.mem_map.mpr ⟨m, h, rfl⟩
theorem f2_add {rs : List Rat} {x y : Rat} (hx : x ∈ rs) (hy : y ∈ rs) : x + y ∈ f2 rs := List.mem_flatMap.mpr ⟨x, hx, List.mem_flatMap.mpr ⟨y, hy, List.mem_cons_self ..⟩⟩
theorem f2_sub {rs : List Rat} {x y : Rat} (hx : x ∈ rs) (hy : y ∈ rs) : x - y ∈ f2 rs := List.mem_flatMap.mpr ⟨x, hx, List.mem_flatMap.mpr ⟨y, hy, List.mem_cons_of_mem _ (List.mem_cons_self ..)⟩⟩
theorem rat_pos (mo : MsOk ms) {x : Rat} (h : x ∈ rats ms) : 0 < x := by
  obtain ⟨m, hm, rfl⟩ := List.mem_map.mp h
  exact ipos (mo.b m hm).1
theorem lyr_d1 (mo : MsOk ms) (r0 : 0 ≤ R) {k : NKey} (h : k ∈ lyr ms R 1) : D1 (rats ms) k := by
  obtain ⟨k', x, h1, h2, rfl⟩ := lay_prev h
  rw [List.mem_singleton.mp h1] at h2
  obtain ⟨m, mm, hc⟩ := step_val mo.b (okM_first r0) h2
  have e0 : ful (keyM 0 0 1) = 0 := rfl
  have e1 : avl (keyM 0 0 1) = 0 := by show ((0 : Int) : Rat) / ((1 : Int) : Rat) = 0; exact z2
  rw [e0, e1, Rat.zero_add] at hc
  rcases hc with ⟨h3, h4⟩ | ⟨h3, _⟩
  · exact ⟨_, rat_mem mm, h3, h4⟩
  · have h3 : m ≤ 0 := h3
    have := (mo.b m mm).1
    omega
theorem lyr_d2 (mo : MsOk ms) (r0 : 0 ≤ R) (hR : R ≤ 10000) {k : NKey} (h : k ∈ lyr ms R 2) : D2 (rats ms) k := by
  obtain ⟨k', x, h1, h2, rfl⟩ := lay_prev h
  obtain ⟨y, hy, e1, e2⟩ := lyr_d1 mo r0 h1
  have yp := rat_pos mo hy
  have yn : y ≠ 0 := fun z => by rw [z] at yp; exact absurd yp (by decide)
  obtain ⟨m, mm, hc⟩ := step_val mo.b (lyr_ok mo.b r0 hR h1) h2
  rw [e1] at hc
  have hm := rat_mem mm
  rcases hc with ⟨h3, h4⟩ | ⟨_, h3, h4⟩
  · rcases e2 with e2 | e2 <;> rw [e2] at h4
    · rcases h4 with h4 | h4
      · exact .inl ⟨_, f2_add hy hm, h3, .inl h4⟩
      · exact .inr ⟨_, hy, _, hm, h3, h4⟩
    · rcases h4 with h4 | h4
      · rw [Rat.zero_add] at h4
        exact .inr ⟨_, hm, _, hy, by rw [h3, Rat.add_comm], h4⟩
      · exact .inl ⟨_, f2_add hy hm, h3, .inr h4⟩
  · rcases e2 with e2 | e2 <;> rw [e2] at h4
    · rw [z3 yn] at h4
      exact .inl ⟨_, f2_sub hy hm, h3, .inl h4⟩
    · rw [z4] at h4
      exact .inl ⟨_, f2_sub hy hm, h3, .inr h4⟩
theorem c2_0 {rs : List Rat} : (0 : Rat) ∈ c2 rs := List.mem_append_left _ (List.mem_cons_self ..)
theorem c2_1 {rs : List Rat} : (1 : Rat) ∈ c2 rs := List.mem_append_left _ (List.mem_cons_of_mem _ (List.mem_cons_self ..))
theorem c2_p {rs : List Rat} {x y : Rat} (hx : x ∈ rs) (hy : y ∈ rs) : x / (x + y) ∈ c2 rs := List.mem_append_right _ (List.mem_flatMap.mpr ⟨x, hx, List.mem_map.mpr ⟨y, hy, rfl⟩⟩)
theorem c3_2 {rs : List Rat} {v : Rat} (h : v ∈ c2 rs) : v ∈ c3 rs := List.mem_append_left _ (List.mem_append_left _ h)
theorem d1_c2 {rs : List Rat} {k : NKey} (h : D1 rs k) (n : ful k ≠ 0) : avl k / ful k ∈ c2 rs := by
  obtain ⟨x, hx, e1, e2⟩ := h
  rw [e1] at n
  rw [e1]
  rcases e2 with e2 | e2 <;> rw [e2]
  · rw [z1 n]; exact c2_1
  · rw [z2]; exact c2_0
theorem d2_c2 {rs : List Rat} {k : NKey} (h : D2 rs k) (n : ful k ≠ 0) : avl k / ful k ∈ c2 rs := by
  rcases h with ⟨f, _, e1, e2⟩ | ⟨x, hx, y, hy, e1, e2⟩
  · rw [e1] at n
    rw [e1]
    rcases e2 with e2 | e2 <;> rw [e2]
    · rw [z1 n]; exact c2_1
    · rw [z2]; exact c2_0
  · rw [e1, e2]
    exact c2_p hx hy
theorem lyr_d3 (mo : MsOk ms) (r0 : 0 ≤ R) (hR : R ≤ 10000) {k : NKey} (h : k ∈ lyr ms R 3) (n : ful k ≠ 0) : avl k / ful k ∈ c3 (rats ms) := by
  obtain ⟨k', x, h1, h2, rfl⟩ := lay_prev h
  obtain ⟨m, mm, hc⟩ := step_val mo.b (lyr_ok mo.b r0 hR h1) h2
  have hm := rat_mem mm
  have mp := rat_pos mo hm
  have inF : ∀ {f : Rat}, f ∈ f2 (rats ms) → f / (f + (m : Rat)) ∈ c3 (rats ms) ∧ (m : Rat) / (f + (m : Rat)) ∈ c3 (rats ms) := fun {f} hf => by
    have key : ∀ v ∈ [f / (f + (m : Rat)), (m : Rat) / (f + (m : Rat))], v ∈ c3 (rats ms) := fun v hv => List.mem_append_left _ (List.mem_append_right _ (List.mem_flatMap.mpr ⟨f, hf, List.mem_flatMap.mpr ⟨_, hm, hv⟩⟩))
    exact ⟨key _ (List.mem_cons_self ..), key _ (List.mem_cons_of_mem _ (List.mem_cons_self ..))⟩
  have inX : ∀ {x y : Rat}, x ∈ rats ms → y ∈ rats ms → (x + (m : Rat)) / (x + y + (m : Rat)) ∈ c3 (rats ms) ∧ x / (x + y + (m : Rat)) ∈ c3 (rats ms) := fun {x y} hx hy => by
    have key : ∀ v ∈ [(x + (m : Rat)) / (x + y + (m : Rat)), x / (x + y + (m : Rat))], v ∈ c3 (rats ms) := fun v hv => List.mem_append_right _ (List.mem_flatMap.mpr ⟨x, hx, List.mem_flatMap.mpr ⟨y, hy, List.mem_flatMap.mpr ⟨_, hm, hv⟩⟩⟩)
    exact ⟨key _ (List.mem_cons_self ..), key _ (List.mem_cons_of_mem _ (List.mem_cons_self ..))⟩
  rcases lyr_d2 mo r0 hR h1 with ⟨f, hf, e1, e2⟩ | ⟨u, hu, y, hy, e1, e2⟩
  · rw [e1] at hc
    rcases hc with ⟨h3, h4⟩ | ⟨ge, h3, h4⟩
    · rw [h3] at n
      rw [h3]
      rcases e2 with e2 | e2 <;> rw [e2] at h4
      · rcases h4 with h4 | h4 <;> rw [h4]
        · rw [z1 n]; exact c3_2 c2_1
        · exact (inF hf).1
      · rcases h4 with h4 | h4 <;> rw [h4]
        · rw [Rat.zero_add]; exact (inF hf).2
        · rw [z2]; exact c3_2 c2_0
    · have fn : f ≠ 0 := fun z => by
        have : (m3 k').1 = 0 := by
          have e1 : ((m3 k').1 : Rat) = 0 := e1.trans z
          exact_mod_cast e1
        have := (mo.b m mm).1
        omega
      rw [h3] at n
      rw [h3]
      rcases e2 with e2 | e2 <;> rw [e2] at h4
      · rw [z3 fn] at h4
        rw [h4, z1 n]; exact c3_2 c2_1
      · rw [z4] at h4
        rw [h4, z2]; exact c3_2 c2_0
  · rw [e1, e2] at hc
    rcases hc with ⟨h3, h4⟩ | ⟨ge, h3, h4⟩
    · rw [h3]
      rcases h4 with h4 | h4 <;> rw [h4]
      · exact (inX hu hy).1
      · exact (inX hu hy).2
    · have hn : u + y ≠ 0 := fun z => by
        have a1 := rat_pos mo hu
        have a2 := rat_pos mo hy
        grind
      rw [h3] at n
      rw [h3, h4, z5 hn n]
      exact c3_2 (c2_p hu hy)
end
end K64

namespace K64
open PySem PySem.Spec PyProof.Rows L2 GM TM BF BE
/-! ### one measure: as many of it, so much of the strong ware in it, in measures -/
def ded : List (Rat × Rat) → List (Rat × Rat)
  | [] => []
  | x :: xs => if x ∈ ded xs then ded xs else x :: ded xs
theorem mem_ded {x : Rat × Rat} : ∀ {xs : List (Rat × Rat)}, x ∈ xs → x ∈ ded xs
  | y :: ys, h => by
    unfold ded
    rcases List.mem_cons.mp h with rfl | h
    · split
      · assumption
      · exact List.mem_cons_self ..
    · split
      · exact mem_ded h
      · exact List.mem_cons_of_mem _ (mem_ded h)
def ust (p : Rat × Rat) : List (Rat × Rat) := [(p.1 + 1, p.2 + 1), (p.1 + 1, p.2), (p.1 - 1, p.2 * (p.1 - 1) / p.1)]
/-- as far as n steps, those that are full among them -/
def uL : Nat → List (Rat × Rat)
  | 0 => [(0, 0)]
  | n + 1 => ded (((uL n).filter fun p => decide (0 ≤ p.1)).flatMap ust)
def dedR : List Rat → List Rat
  | [] => []
  | x :: xs => if x ∈ dedR xs then dedR xs else x :: dedR xs
theorem mem_dedR {x : Rat} : ∀ {xs : List Rat}, x ∈ xs → x ∈ dedR xs
  | y :: ys, h => by
    unfold dedR
    rcases List.mem_cons.mp h with rfl | h
    · split
      · assumption
      · exact List.mem_cons_self ..
    · split
      · exact mem_dedR h
      · exact List.mem_cons_of_mem _ (mem_dedR h)
def uAll : Nat → List (Rat × Rat)
  | 0 => uL 0
  | n + 1 => uAll n ++ uL (n + 1)
theorem mem_uAll {p : Rat × Rat} {i : Nat} (h : p ∈ uL i) : ∀ n, i ≤ n → p ∈ uAll n
  | 0, e => by
    have : i = 0 := by omega
    subst this
    exact h
  | n + 1, e => by
    by_cases c : i = n + 1
    · subst c
      exact List.mem_append_right _ h
    · exact List.mem_append_left _ (mem_uAll h n (by omega))
def uC : List Rat := dedR (((uAll 6).filter fun p => decide (0 < p.1)).map fun p => p.2 / p.1)
theorem uC_len : uC.length < 64 := by decide +kernel
theorem y1 {j m : Rat} : j * m + m = (j + 1) * m := by grind
theorem y2 {j m : Rat} : j * m - m = (j - 1) * m := by grind
theorem y3 {j u m : Rat} (hj : j ≠ 0) (hm : m ≠ 0) : u * m * (j * m - m) / (j * m) = u * (j - 1) / j * m := by grind
theorem y4 {j u m : Rat} (hm : m ≠ 0) : u * m / (j * m) = u / j := by grind
theorem y5 {j m : Rat} (hm : 0 < m) (h : 0 ≤ j * m) : 0 ≤ j := by
  by_cases c : 0 ≤ j
  · exact c
  · have c' : j < 0 := Rat.not_le.mp c
    have := Rat.mul_lt_mul_of_pos_right c' hm
    rw [Rat.zero_mul] at this
    exact absurd h (Rat.not_le.mpr this)
theorem y6 {j m : Rat} (hm : 0 < m) (h : 0 < j * m) : 0 < j := by
  by_cases c : 0 < j
  · exact c
  · have c' : j ≤ 0 := Rat.not_lt.mp c
    have := Rat.mul_le_mul_of_nonneg_right c' (Rat.le_of_lt hm)
    rw [Rat.zero_mul] at this
    exact absurd h (Rat.not_lt.mpr this)
theorem unit_lay {m : Int} {R : Int} (m1 : 1 ≤ m) (m2 : m ≤ 1000) (r0 : 0 ≤ R) (hR : R ≤ 10000) : ∀ {n : Nat} {k : NKey}, k ∈ lyr [m] R n → ∃ p ∈ uL n, ful k = p.1 * (m : Rat) ∧ avl k = p.2 * (m : Rat)
  | 0, k, h => by
    rw [List.mem_singleton.mp h]
    refine ⟨(0, 0), List.mem_cons_self .., ?_, ?_⟩
    · rw [Rat.zero_mul]; rfl
    · rw [Rat.zero_mul]
      show ((0 : Int) : Rat) / ((1 : Int) : Rat) = 0
      exact z2
  | n + 1, k, h => by
    have hb : ∀ x ∈ [m], 1 ≤ x ∧ x ≤ 1000 := fun x hx => by rw [List.mem_singleton.mp hx]; exact ⟨m1, m2⟩
    obtain ⟨k', x, h1, h2, rfl⟩ := lay_prev h
    obtain ⟨p, hp, e1, e2⟩ := unit_lay m1 m2 r0 hR h1
    have ok := lyr_ok hb r0 hR h1
    obtain ⟨m', mm, hc⟩ := step_val hb ok h2
    rw [List.mem_singleton.mp mm, e1, e2] at hc
    have mp := ipos m1
    have mn := ine m1
    have f0 : 0 ≤ p.1 := by
      refine y5 mp ?_
      rw [← e1]
      obtain ⟨F, T, B, rfl, hF, _⟩ := ok
      show (0 : Rat) ≤ ((F : Int) : Rat)
      exact_mod_cast hF
    have inn : ∀ q ∈ ust p, q ∈ uL (n + 1) := fun q hq => mem_ded (List.mem_flatMap.mpr ⟨p, List.mem_filter.mpr ⟨hp, decide_eq_true f0⟩, hq⟩)
    rcases hc with ⟨h3, h4 | h4⟩ | ⟨ge, h3, h4⟩
    · exact ⟨_, inn _ (List.mem_cons_self ..), by rw [h3]; exact y1, by rw [h4]; exact y1⟩
    · exact ⟨_, inn _ (List.mem_cons_of_mem _ (List.mem_cons_self ..)), by rw [h3]; exact y1, h4⟩
    · have jn : p.1 ≠ 0 := fun z => by
        rw [z, Rat.zero_mul] at e1
        have : (m3 k').1 = 0 := by
          have e1 : ((m3 k').1 : Rat) = 0 := e1
          exact_mod_cast e1
        omega
      exact ⟨_, inn _ (List.mem_cons_of_mem _ (List.mem_cons_of_mem _ (List.mem_cons_self ..))), by rw [h3]; exact y2, by rw [h4]; exact y3 jn mn⟩
/-- the numbers of measures and deeds -/
structure DpOk (ms : List Int) (deep : Nat) : Prop where
  d1 : ms.length = 1 → deep ≤ 6
  d2 : ms.length = 2 → deep ≤ 3
  d3 : ms.length = 3 → deep ≤ 2
theorem flen {α β : Type} {f : α → List β} {c : Nat} : ∀ {xs : List α}, (∀ x, (f x).length = c) → (xs.flatMap f).length = xs.length * c
  | [], _ => by simp
  | x :: xs, h => by rw [List.flatMap_cons, List.length_append, h x, flen h, List.length_cons, Nat.succ_mul]; omega
theorem c2_len {rs : List Rat} : (c2 rs).length = 2 + rs.length * rs.length := by
  unfold c2
  rw [List.length_append, flen (c := rs.length) fun x => List.length_map ..]
  rfl
theorem c3_len {rs : List Rat} (h : rs.length = 2) : (c3 rs).length = 54 := by
  unfold c3 f2
  rw [List.length_append, List.length_append, c2_len, flen (c := rs.length * 2) fun x => flen fun _ => rfl, flen (c := rs.length * 2) fun x => flen fun _ => rfl, flen (c := rs.length * (rs.length * 2)) fun x => flen fun _ => flen fun _ => rfl, h]
theorem few_lyr {ms : List Int} {R : Int} {deep : Nat} {least : Int} (mo : MsOk ms) (dp : DpOk ms deep) (r0 : 0 ≤ R) (hR : R ≤ 10000) (l1 : 1 ≤ least) {rs : List M3} (h : ∀ m ∈ rs, ∃ i k, i ≤ deep ∧ k ∈ lyr ms R i ∧ m = m3 k ∧ least ≤ m.1) : Few rs := by
  have l3 := mo.l3
  have l1' := mo.l1
  have mx : ∀ m ∈ rs, MxOk m := fun m hm => by
    obtain ⟨i, k, hi, hk, rfl, hl⟩ := h m hm
    refine (lyr_ok mo.b r0 hR hk).mx ?_ hR l1 hl
    have c : ms.length = 1 ∨ ms.length = 2 ∨ ms.length = 3 := by omega
    rcases c with c | c | c
    · have := dp.d1 c; omega
    · have := dp.d2 c; omega
    · have := dp.d3 c; omega
  have fp : ∀ {k : NKey}, MxOk (m3 k) → 0 < ful k := fun h => ipos h.f1
  have fn : ∀ {k : NKey}, MxOk (m3 k) → ful k ≠ 0 := fun h => ine h.f1
  have zero : ∀ {k : NKey}, k ∈ lyr ms R 0 → ¬ MxOk (m3 k) := fun hk mk => by
    rw [List.mem_singleton.mp hk] at mk
    exact absurd mk.f1 (by decide)
  have rl : (rats ms).length = ms.length := List.length_map ..
  by_cases c1 : ms.length = 1
  · obtain ⟨m, rfl⟩ : ∃ m, ms = [m] := by
      match ms, c1 with
      | [m], _ => exact ⟨m, rfl⟩
    have d6 := dp.d1 c1
    obtain ⟨m1, m2⟩ := mo.b m (List.mem_cons_self ..)
    refine few_of mx uC_len fun m' hm => ?_
    have mk := mx m' hm
    obtain ⟨i, k, hi, hk, rfl, hl⟩ := h m' hm
    rw [st_val mk]
    obtain ⟨p, hp, e1, e2⟩ := unit_lay m1 m2 r0 hR hk
    have f0 := fp mk
    rw [e1] at f0
    rw [e1, e2, y4 (ine m1)]
    exact mem_dedR (List.mem_map.mpr ⟨p, List.mem_filter.mpr ⟨mem_uAll hp 6 (by omega), decide_eq_true (y6 (ipos m1) f0)⟩, rfl⟩)
  · by_cases c2' : ms.length = 2
    · have d3 := dp.d2 c2'
      refine few_of mx (cs := c3 (rats ms)) (by rw [c3_len (by rw [rl]; exact c2')]; decide) fun m' hm => ?_
      have mk := mx m' hm
      obtain ⟨i, k, hi, hk, rfl, hl⟩ := h m' hm
      rw [st_val mk]
      have c : i = 0 ∨ i = 1 ∨ i = 2 ∨ i = 3 := by omega
      rcases c with rfl | rfl | rfl | rfl
      · exact absurd mk (zero hk)
      · exact c3_2 (d1_c2 (lyr_d1 mo r0 hk) (fn mk))
      · exact c3_2 (d2_c2 (lyr_d2 mo r0 hR hk) (fn mk))
      · exact lyr_d3 mo r0 hR hk (fn mk)
    · have d2 := dp.d3 (by omega)
      refine few_of mx (cs := c2 (rats ms)) (by rw [c2_len, rl]; have : ms.length = 3 := (by omega); rw [this]; decide) fun m' hm => ?_
      have mk := mx m' hm
      obtain ⟨i, k, hi, hk, rfl, hl⟩ := h m' hm
      rw [st_val mk]
      have c : i = 0 ∨ i = 1 ∨ i = 2 := by omega
      rcases c with rfl | rfl | rfl
      · exact absurd mk (zero hk)
      · exact d1_c2 (lyr_d1 mo r0 hk) (fn mk)
      · exact d2_c2 (lyr_d2 mo r0 hR hk) (fn mk)
theorem eM_lenC {ms : List Int} {R : Int} {d : Nat} {k : NKey} (ok : okM R d k) : (eM ms R k).length ≤ 3 * ms.length := by
  rw [ok.key, eM_key, List.length_map]
  unfold stepsOf
  rw [List.length_append, List.length_append, List.length_map, List.length_map, List.length_map]
  have h1 := List.length_filter_le (fits R (m3 k).1) ms
  have h2 := List.length_filter_le (less' (m3 k).1) ms
  omega
theorem never_many {ms : List Int} {R least : Int} {one : Int × Int} {deep most : Nat} (mo : MsOk ms) (dp : DpOk ms deep) (r0 : 0 ≤ R) (r1 : R ≤ 10000) (hm : 1500 ≤ most) : BE.bfs (bM ms R least one deep most) (keyM 0 0 1) ≠ .many := by
  refine not_manyC (ok := okM R) (c := 3 * ms.length) (okM_first r0) (fun d k h _ x hx => okM_step mo.b r1 h x hx) (fun d k h => eM_lenC h) (by show 1 ≤ most; omega) ?_
  show geo (3 * ms.length) deep < most
  have l3 := mo.l3
  have l1 := mo.l1
  have mono : ∀ c a b, a ≤ b → geo c a ≤ geo c b := fun c a b h => by
    induction b with
    | zero => have : a = 0 := (by omega); rw [this]; exact Nat.le_refl _
    | succ b ih =>
      by_cases e : a = b + 1
      · rw [e]; exact Nat.le_refl _
      · have := ih (by omega)
        show geo c a ≤ geo c b + c ^ (b + 1)
        omega
  have c : ms.length = 1 ∨ ms.length = 2 ∨ ms.length = 3 := by omega
  rcases c with c | c | c
  · have := mono 3 deep 6 (dp.d1 c)
    rw [c]
    have e : geo 3 6 = 1093 := by decide
    show geo 3 deep < most
    omega
  · have := mono 6 deep 3 (dp.d2 c)
    rw [c]
    have e : geo 6 3 = 259 := by decide
    show geo 6 deep < most
    omega
  · have := mono 9 deep 2 (dp.d3 c)
    rw [c]
    have e : geo 9 2 = 91 := by decide
    show geo 9 deep < most
    omega
end K64

/-! ### a pair of ints in a list of such pairs -/
namespace L2
open PySem PySem.Spec PyProof.Rows PySem.W
section
variable {X : Cx} {pins : List (Addr × Obj)} {σ : St} {H : Hp} {s : Shared}
theorem sz_fun (I : Inv X pins σ H s) {a : Addr} {x y : Int × Int} (h1 : SqZ X.K H a [.int x.1, .int x.2]) (h2 : SqZ X.K H a [.int y.1, .int y.2]) : x = y := by
  obtain ⟨its, r, ⟨o, e1, e2, n, e3⟩, _⟩ := I.tuple h1.sq
  obtain ⟨its', r', ⟨o', g1, g2, n', g3⟩, _⟩ := I.tuple h2.sq
  rw [e1] at g1
  cases g1
  rw [e3] at g3
  injection g3 with g3 _
  have g4 : its = its' := by simpa using g3
  subst g4
  obtain ⟨u, v, rfl, ⟨t1, ru⟩, ⟨t2, rv⟩⟩ := r.two
  obtain ⟨u', v', e, ⟨t3, ru'⟩, ⟨t4, rv'⟩⟩ := r'.two
  cases e
  rw [ru] at ru'
  rw [rv] at rv'
  injection ru' with q1 _
  injection rv' with q2 _
  exact Prod.ext q1 q2
end
def PrZ (K : PySem.W.Frag) (H : Hp) (vs : List V) (fr : List (Int × Int)) : Prop := Paired (fun v x => ∃ a, v = V.ref a ∧ SqZ K H a [.int x.1, .int x.2]) vs fr
def rInP (K : PySem.W.Frag) : R2 := fun x y H Q => ∃ (b p : Addr) (t : Int × Int) (us : List V) (fr : List (Int × Int)), x = .ref b ∧ y = .ref p ∧ SqZ K H b [.int t.1, .int t.2] ∧ SqL K H p us ∧ PrZ K H us fr ∧ Q (.bl (decide (t ∈ fr))) H
theorem deq_two {K : PySem.W.Frag} {H : Hp} {n : Nat} {a b : Addr} {x y : Int × Int} (ne : a ≠ b) (h1 : SqT K H a [.int x.1, .int x.2]) (h2 : SqT K H b [.int y.1, .int y.2]) : DEq K H (n + 1) (.ref a) (.ref b) (decide (x = y)) := by
  have q := DEq.tup (n := n) (e := fun j => if j = 0 then eqV (.int x.1) (.int y.1) else eqV (.int x.2) (.int y.2)) ne h1 h2 fun j u v hu hv => by
    match j, hu, hv with
    | 0, hu, hv => cases hu; cases hv; exact DEq.flat rfl rfl
    | 1, hu, hv => cases hu; cases hv; exact DEq.flat rfl rfl
    | j + 2, hu, _ => cases hu
  have e : ((List.range (min 2 2)).all (fun j => if j = 0 then eqV (.int x.1) (.int y.1) else eqV (.int x.2) (.int y.2)) && (2 == 2)) = decide (x = y) := by
    show ((eqV (.int x.1) (.int y.1) && (eqV (.int x.2) (.int y.2) && true)) && true) = _
    simp [eqV, Prod.ext_iff]
    rfl
  rw [← e]
  exact q
/-- is it the pair t -/
noncomputable def isP (K : PySem.W.Frag) (H : Hp) (t : Int × Int) (u : V) : Bool := @decide (∃ a, u = .ref a ∧ SqZ K H a [.int t.1, .int t.2]) (Classical.propDecidable _)
theorem inP_key {X : Cx} {pins : List (Addr × Obj)} {σ : St} {H : Hp} {s : Shared} (I : Inv X pins σ H s) {b : Addr} {t : Int × Int} (hb : SqZ X.K H b [.int t.1, .int t.2]) {us : List V} {fr : List (Int × Int)} (hf : PrZ X.K H us fr) : (∀ u ∈ us, Sf u ∧ DEq X.K H 40 u (.ref b) (isP X.K H t u)) ∧ us.any (isP X.K H t) = decide (t ∈ fr) := by
  induction hf with
  | nil => exact ⟨fun u hu => (nomatch hu), rfl⟩
  | @cons v y vs fr h _ ih =>
    obtain ⟨a, rfl, ha⟩ := h
    have ev : isP X.K H t (.ref a) = decide (y = t) := by
      by_cases e : y = t
      · rw [decide_eq_true e]
        exact @decide_eq_true _ (Classical.propDecidable _) ⟨a, rfl, by rw [← e]; exact ha⟩
      · rw [decide_eq_false e]
        refine @decide_eq_false _ (Classical.propDecidable _) fun ⟨a', e', ha'⟩ => e ?_
        cases e'
        exact sz_fun I ha ha'
    refine ⟨fun u hu => ?_, ?_⟩
    · rcases List.mem_cons.mp hu with rfl | hu
      · refine ⟨.inr ⟨a, rfl⟩, ?_⟩
        rw [ev]
        by_cases ab : a = b
        · subst ab
          rw [decide_eq_true (sz_fun I ha hb)]
          exact DEq.same
        · exact deq_two (n := 39) ab ha.sq hb.sq
      · exact ih.1 u hu
    · rw [List.any_cons, ih.2, ev]
      by_cases e : y = t
      · rw [decide_eq_true e, Bool.true_or]
        exact (decide_eq_true (by rw [e]; exact List.mem_cons_self ..)).symm
      · rw [decide_eq_false e, Bool.false_or]
        by_cases m : t ∈ fr
        · rw [decide_eq_true m]
          exact (decide_eq_true (List.mem_cons_of_mem _ m)).symm
        · rw [decide_eq_false m]
          refine (decide_eq_false fun z => ?_).symm
          rcases List.mem_cons.mp z with z | z
          · exact e z.symm
          · exact m z
end L2

/-! ### a pair of ints that is not in a list of such pairs -/
namespace L2
open PySem PySem.Spec PyProof.Rows PySem.W
def rNotInG (K : PySem.W.Frag) : R2 := fun x y H Q => ∃ p us, ∃ e : V → Bool, y = .ref p ∧ SqL K H p us ∧ (∀ u ∈ us, Sf u ∧ DEq K H 40 u x (e u)) ∧ Q (.bl (!us.any e)) H
section
variable {X : Cx}
theorem op_notInG (hu : X.A.units + 64 < cLine) : OpR X (compareOp .NotIn) (rNotInG X.K) := by
  intro pins s σ H x y v u Q I rx ry h
  obtain ⟨p, us, e, rfl, hq, fs, q⟩ := h
  cases ry
  obtain ⟨its, r, pl, hz⟩ := I.list hq
  have hu' : X.A.in1.units + 40 < cLine := by
    have : X.A.in1.units = X.A.units + 1 := rfl
    omega
  refine SeqAt.notIn_listAt (fun u => e (toV u)) pl.isList (fun w hw => mem_toV I hu' rx r fs w (by simpa using hw)) ⟨.bl _, H, I, rfl, ?_⟩
  rw [show its.toArray.any (fun u => e (toV u)) = its.any (fun u => e (toV u)) by simp, any_toV r fun v hv => (fs v hv).1]
  exact q
end
def rNotInP (K : PySem.W.Frag) : R2 := fun x y H Q => ∃ (b p : Addr) (t : Int × Int) (us : List V) (fr : List (Int × Int)), x = .ref b ∧ y = .ref p ∧ SqZ K H b [.int t.1, .int t.2] ∧ SqL K H p us ∧ PrZ K H us fr ∧ Q (.bl (!decide (t ∈ fr))) H
theorem op_notInP {X : Cx} (hu : X.A.units + 64 < cLine) : OpR X (compareOp .NotIn) (rNotInP X.K) := by
  intro pins s σ H x y v u Q I rx ry h
  obtain ⟨b, p, t, us, fr, rfl, rfl, hb, hl, hf, q⟩ := h
  obtain ⟨k1, k2⟩ := inP_key I hb hf
  exact op_notInG hu pins s σ H _ _ v u Q I rx ry ⟨p, us, _, rfl, hl, k1, by rw [k2]; exact q⟩
/-- == of two deeds -/
theorem eq_dd {K : PySem.W.Frag} {H : Hp} {a b : Addr} {x y : Str × Int} {Q : VK} (h1 : SqT K H a [.str x.1, .int x.2]) (h2 : SqT K H b [.str y.1, .int y.2]) (q : Q (.bl (decide (x = y))) H) : rEqT K (.ref a) (.ref b) H Q := by
  refine ⟨a, b, _, _, fun j => if j = 0 then eqV (.str x.1) (.str y.1) else eqV (.int x.2) (.int y.2), rfl, rfl, h1, h2, fun j u v hu hv => ?_, ?_⟩
  · match j, hu, hv with
    | 0, hu, hv => cases hu; cases hv; exact DEq.flat rfl rfl
    | 1, hu, hv => cases hu; cases hv; exact DEq.flat rfl rfl
    | j + 2, hu, _ => cases hu
  · have e : ((List.range (min 2 2)).all (fun j => if j = 0 then eqV (.str x.1) (.str y.1) else eqV (.int x.2) (.int y.2)) && (2 == 2)) = decide (x = y) := by
      show ((eqV (.str x.1) (.str y.1) && (eqV (.int x.2) (.int y.2) && true)) && true) = _
      have e1 : eqV (.str x.1) (.str y.1) = decide (x.1 = y.1) := by
        show (x.1 == y.1) = _
        by_cases z : x.1 = y.1
        · rw [decide_eq_true z, z, beq_self_eq_true]
        · rw [decide_eq_false z, beq_false_of_ne z]
      have e2 : eqV (.int x.2) (.int y.2) = decide (x.2 = y.2) := rfl
      rw [e1, e2, Bool.and_true, Bool.and_true, ← Bool.decide_and]
      exact decide_eq_decide.mpr Prod.ext_iff.symm
    show Q (.bl ((List.range (min 2 2)).all _ && (2 == 2))) H
    rw [e]
    exact q
end L2

namespace GM
/-- t over b, in lowest terms, is N over M -/
structure Fr (M t b N : Int) : Prop where
  am : Amt t b
  e : t * M = N * b
end GM

namespace TR
open PySem PySem.Spec PyProof.Rows L2 GM
theorem seq_nx {t u : TS} {D : Ends} {σ : L2.St} {H : Hp} (S : L2.St → Hp → Prop) (h : ∀ σ' H', S σ' H' → u D σ' H') (g : ∀ N : L2.St → Hp → Prop, (∀ σ' H', S σ' H' → N σ' H') → t { D with nx := N } σ H) : tSeq t u D σ H := g (u D) h
/-! ### the two largest of a list, noughts standing by -/
def Top2 (l : List Int) (f s : Int) : Prop := ∃ r, (l ++ [0, 0]).Perm (f :: s :: r) ∧ s ≤ f ∧ ∀ x ∈ r, x ≤ s
/-- the need of a recipe by those of its parts -/
def Nd (ds : List Int) (d : Int) : Prop := ∃ f s, Top2 ds f s ∧ d = max f (s + 1)
/-! ### counts of parts, a recipe ahead of its parts -/
def av : List Int → Int
  | [] => 0
  | c :: r => av r - c + 1
def Okc : List Int → Prop
  | [] => True
  | c :: r => Okc r ∧ 0 ≤ c ∧ c < 64 ∧ c ≤ av r
/-- p: the counts so far; m trees begun, l parts lacking -/
def Gd (p : List Int) (m l : Int) : Prop := ∀ r, Okc r → l ≤ av r → Okc (p ++ r) ∧ av r - l + m ≤ av (p ++ r)
/-! ### trees in the heap -/
def Am (H : Hp) (m : Addr) (n : Nat) : Prop := ∃ t b : Int, H m = some (.tup [.int t, .int b]) ∧ 0 ≤ t ∧ 1 ≤ b ∧ Bt (64 * n - 1) t ∧ Bt (64 * n - 1) b
/-- a part with its size and its need -/
abbrev Pt := V × Nat × Int
def szs (cs : List Pt) : Nat := (cs.map (·.2.1)).sum
def Tr (H : Hp) : Nat → V → Nat → Int → Prop
  | 0, _, _, _ => False
  | n + 1, v, s, d =>
    (∃ (p m : Addr) (x : Str), v = .ref p ∧ H p = some (.tup [.str "ware", .str x, .ref m]) ∧ Am H m 1 ∧ s = 1 ∧ d = 0) ∨
    (∃ (p m q : Addr) (x : Str) (cs : List Pt), v = .ref p ∧ H p = some (.tup [.str "recipe", .str x, .ref m, .ref q]) ∧ H q = some (.tup (cs.map (·.1))) ∧ 1 ≤ cs.length ∧ cs.length < 64 ∧
      (∀ c ∈ cs, Tr H n c.1 c.2.1 c.2.2) ∧ s = 1 + szs cs ∧ Nd (cs.map (·.2.2)) d ∧ Am H m s)
/-! ### things taken off a pile within a comprehension -/
def Bx (a : Addr) (H H' : Hp) : Prop := ∀ b o, b ≠ a → H b = some o → H' b = some o
/-- how many counts are not nought -/
def nzc (cs : List Int) : Nat := (cs.filter fun c => c != 0).length
/-- a pile of trees, behind the last j counts -/
structure Pile (H : Hp) (cs : List Int) (j : Nat) (pl : List Pt) : Prop where
  tr : ∀ c ∈ pl, Tr H (nzc (cs.drop (cs.length - j)) + 1) c.1 c.2.1 c.2.2
  sz : szs pl = j
  ln : (pl.length : Int) = av (cs.drop (cs.length - j))
  hd : 1 ≤ j → ∃ pl' q, pl = pl' ++ [q] ∧ ∀ c, cs[cs.length - j]? = some c → 1 ≤ c → 1 ≤ q.2.2
/-! ### paths -/
def AtP (H : Hp) : V → List Nat → V → Prop
  | v, [], u => v = u
  | v, k :: r, u => ∃ (p m q : Addr) (x : Str) (vs : List V) (c : V), v = .ref p ∧ H p = some (.tup [.str "recipe", .str x, .ref m, .ref q]) ∧ H q = some (.tup vs) ∧ vs[k]? = some c ∧ AtP H c r u
abbrev pth (ks : List Nat) : List V := ks.map fun (k : Nat) => V.int (k : Int)
/-- an entry of a list of paths: the path and the part that lies there; s the part's size -/
def Ent (H : Hp) (root : V) (N : Nat) (e : Addr) (s : Nat) : Prop := ∃ (pa : Addr) (ks : List Nat) (v : V) (n : Nat) (d : Int), H e = some (.tup [.ref pa, v]) ∧ H pa = some (.tup (pth ks)) ∧ AtP H root ks v ∧ Tr H n v s d ∧ ks.length + n ≤ N
end TR

namespace K64
open PySem PySem.Spec PyProof.Rows L2 GM TM BF BE TR
/-! ### _law_walks -/
/-- the nodes of a walk -/
def Wn (K : PySem.W.Frag) (H : Hp) (xs : List V) (ms : List Int) (R : Int) : Prop := ∀ (j : Nat) v, xs[j]? = some v → ∃ k, k ∈ lyr ms R (j + 1) ∧ NV K H v k
theorem Wn.keep {K : PySem.W.Frag} {H H' : Hp} {xs : List V} {ms : List Int} {R : Int} (h : Wn K H xs ms R) (t : ∀ b ys, H b = some (.tup ys) → H' b = some (.tup ys)) : Wn K H' xs ms R := fun j v hv => let ⟨k, h1, h2⟩ := h j v hv; ⟨k, h1, h2.keep t⟩
def Wk (K : PySem.W.Frag) (H : Hp) (l : Addr) (ms : List Int) (R : Int) (deep : Nat) : Prop := ∃ xs, H l = some (.lst xs) ∧ xs.length ≤ deep ∧ Wn K H xs ms R
theorem Wk.keep {K : PySem.W.Frag} {H H' : Hp} {l : Addr} {ms : List Int} {R : Int} {deep : Nat} (h : Wk K H l ms R deep) (hl : ∀ xs, H l = some (.lst xs) → H' l = some (.lst xs)) (t : ∀ b ys, H b = some (.tup ys) → H' b = some (.tup ys)) : Wk K H' l ms R deep := let ⟨xs, h1, h2, h3⟩ := h; ⟨xs, hl _ h1, h2, h3.keep t⟩
/-- the walks so far, the walk under way, its last mixing -/
structure WS (K : PySem.W.Frag) (H0 H : Hp) (WH W : Addr) (ws : List Addr) (xs : List V) (g : V) (ms : List Int) (R : Int) (deep : Nat) : Prop where
  sm : Same H0 H
  nh : H0 WH = none
  nw : H0 W = none
  wh : H WH = some (.lst (ws.map V.ref))
  w : H W = some (.lst xs)
  ne : W ≠ WH
  nws : ∀ l ∈ ws, l ≠ WH ∧ l ≠ W
  wk : ∀ l ∈ ws, Wk K H l ms R deep
  xl : xs.length ≤ deep
  xn : Wn K H xs ms R
  gn : ∃ k, k ∈ lyr ms R xs.length ∧ NV K H g k
theorem WS.keep {K : PySem.W.Frag} {H0 H H' : Hp} {WH W : Addr} {ws : List Addr} {xs : List V} {g : V} {ms : List Int} {R : Int} {deep : Nat} (h : WS K H0 H WH W ws xs g ms R deep) (s : Same H H') : WS K H0 H' WH W ws xs g ms R deep :=
  ⟨h.sm.trans s, h.nh, h.nw, s _ _ h.wh, s _ _ h.w, h.ne, h.nws, fun l hl => (h.wk l hl).keep (fun xs => s _ _) fun b ys => s _ _, h.xl, h.xn.keep fun b ys => s _ _, let ⟨k, h1, h2⟩ := h.gn; ⟨k, h1, h2.keep fun b ys => s _ _⟩⟩
def spWalks (K : PySem.W.Frag) : Sp := fun vs H Q _ => ∃ (a c : Addr) (ms cs : List Int) (R : Int) (deep : Nat), vs = [.ref a, .int R, .int ((deep : Nat) : Int), .ref c] ∧ SqL K H a (ms.map V.int) ∧ MsOk ms ∧ 0 ≤ R ∧ R ≤ 10000 ∧ deep ≤ 6 ∧ SqL K H c (cs.map V.int) ∧ cs.length ≤ 60 ∧
  ∀ (p : Addr) (ws : List Addr) H', Same H H' → H' p = some (.lst (ws.map V.ref)) → 1 ≤ ws.length → ws.length ≤ 64 → (∀ l ∈ ws, Wk K H' l ms R deep) → Q (.ref p) H'
section
variable {P : Program} {w : World} {K : PySem.W.Frag} {mg : Str → Option Value} {base : Heap}
abbrev Nwa : List Str := ["_law_measures_here", "_law_room", "_law_deepest", "_law_cells", "_law_walks_here", "_law_mixing", "_law_walk", "_law_k", "_law_some"]
theorem scWa : FnScope Nwa ["_law_measures_here", "_law_room", "_law_deepest", "_law_cells"] (defScope sLWalks) := ⟨rfl, rfl, rfl, by decide +kernel, rfl, by decide +kernel, by decide +kernel⟩
theorem ok_walks {f : Addr} {fd : FuncData} (F : Fun K "_law_walks" "_law_walks" sLWalks f fd) (T : Txt mg) (cM : Cal P w K mg base CX0 3 "_law_mixings" ["_law_measures_here", "_law_room", "_law_mixing"] (K64.spSteps K)) (cX : Cal P w K mg base CX0 3 "_law_mixed" ["_law_cell", "_law_k"] spMixed) : FnOk P w K mg base CX0 4 f fd ["_law_measures_here", "_law_room", "_law_deepest", "_law_cells"] (spWalks K) := by
  refine F.ok scWa (fun vs H Q E h => ?_) (fun cdv A outer s H vs Q E hr h => ?_)
  · obtain ⟨_, _, _, _, _, _, rfl, _⟩ := h
    rfl
  · obtain ⟨a, c, ms, cs, R, deep, rfl, hl, mo, r0, r1, dp, hc, c60, k⟩ := h
    refine ⟨_, (pss_cons (ps_set (i := 4) scWa.nd rfl (Or.inl rfl) (pe_lst pa_nil))
      (pss_cons (ps_set (i := 5) scWa.nd rfl (Or.inl rfl) (pe_tup (pa_cons pe_int (pa_cons (pe_tup (pa_cons pe_int (pa_cons pe_int pa_nil))) pa_nil))))
      (pss_cons (ps_set (i := 6) scWa.nd rfl (Or.inl rfl) (pe_lst pa_nil))
      (pss_cons (ps_for PassesOwn.never rfl (pi_range1 rfl T.range (pa_cons (pe_callB call_len_seq rfl T.len PySem.boot_len (pa_cons (pv 3) pa_nil)) pa_nil)) (pg_name (i := 7) scWa.nd rfl (Or.inl rfl))
        (pss_cons (ps_if (pt_cmpR op_eq (pe_callB call_len_seq rfl T.len PySem.boot_len (pa_cons (pv 6) pa_nil)) (pv 2) (nomark _))
          (pss_cons (ps_expr (pe_bm PySem.F.plainAttrs_list PySem.F.slot_list_append PySem.F.type_list_append mt_append (pv 4) (pa_cons (pv 6) pa_nil)))
          (pss_cons (ps_set (i := 5) scWa.nd rfl (Or.inl rfl) (pe_tup (pa_cons pe_int (pa_cons (pe_tup (pa_cons pe_int (pa_cons pe_int pa_nil))) pa_nil))))
          (pss_one (ps_set (i := 6) scWa.nd rfl (Or.inl rfl) (pe_lst pa_nil)))))
          pss_nil)
        (pss_cons (ps_set (i := 8) scWa.nd rfl (Or.inl rfl) (pe_cal cM hr rfl pass0 (pa_cons (pv 0) (pa_cons (pv 1) (pa_cons (pv 5) pa_nil)))))
        (pss_one (ps_if (PW.pt (pw_and (pt_cmpR op_gt (pv 2) pe_int (nomark _)) (pw_and1 (pt_cmpR (op_neE hr.units) (pv 8) (pe_lst pa_nil) (nomark _)))))
          (pss_cons (ps_set (i := 5) scWa.nd rfl (Or.inl rfl) (pe_ix ix_tup (pe_ix ix_list (pv 8) (pe_op op_mod (pe_cal cX hr rfl pass0 (pa_cons (pe_ix ix_list (pv 3) (pv 7) (fun _ _ => rfl)) (pa_cons (pe_op op_add (pv 7) pe_int) pa_nil))) (pe_callB call_len_seq rfl T.len PySem.boot_len (pa_cons (pv 8) pa_nil))) (fun _ _ => rfl)) pe_int (fun _ _ => rfl)))
          (pss_one (ps_expr (pe_bm PySem.F.plainAttrs_list PySem.F.slot_list_append PySem.F.type_list_append mt_append (pv 6) (pa_cons (pv 5) pa_nil)))))
          pss_nil)))))
      (pss_one (ps_ret (pe_op op_cat (pv 4) (pe_lst (pa_cons (pv 6) pa_nil))))))))), ?_⟩
    refine ⟨(by show 0 ≤ sizeLine; decide), fun WH n1 => ?_⟩
    have t1 := Same.upd (o := .lst []) n1
    have hWH := upd_same (H := H) (a := WH) (o := .lst [])
    generalize upd H WH (.lst []) = H1 at t1 hWH ⊢
    refine ⟨(by show 2 ≤ sizeLine; decide), fun q1 n2 => ⟨(by show 2 ≤ sizeLine; decide), fun g1 n3 => ?_⟩⟩
    have t2 := Same.upd (o := .tup [.int 0, .int 1]) n2
    have t3 := Same.upd (o := .tup [.int 0, .ref q1]) n3
    have hq1 := t3 _ _ (upd_same (H := H1) (a := q1) (o := .tup [.int 0, .int 1]))
    have hg1 := upd_same (H := upd H1 q1 (.tup [.int 0, .int 1])) (a := g1) (o := .tup [.int 0, .ref q1])
    have t23 := t2.trans t3
    generalize upd (upd H1 q1 (.tup [.int 0, .int 1])) g1 (.tup [.int 0, .ref q1]) = H2 at t23 hq1 hg1 ⊢
    refine ⟨(by show 0 ≤ sizeLine; decide), fun W n4 => ?_⟩
    have t4 := Same.upd (o := .lst []) n4
    have hW := upd_same (H := H2) (a := W) (o := .lst [])
    have nWH : W ≠ WH := fun z => by rw [z, t23 _ _ hWH] at n4; cases n4
    have nW : H W = none := (t1.trans t23).free n4
    generalize upd H2 W (.lst []) = H3 at t4 hW ⊢
    have s03 := t1.trans (t23.trans t4)
    have ws0 : WS K H H3 WH W [] [] (.ref g1) ms R deep := ⟨s03, n1, nW, (t23.trans t4) _ _ hWH, hW, nWH, fun l hl => (nomatch hl), fun l hl => (nomatch hl), Nat.zero_le _, fun j v hv => (by cases hv), ⟨_, List.mem_singleton.mpr rfl, nv_of (SqZ.of (t4 _ _ hg1)) (SqZ.of (t4 _ _ hq1))⟩⟩
    refine ⟨_, rfl, c, _, rfl, .inl (s03.seq hc), _, rfl, by rw [List.length_map]; omega, by rw [List.length_map]; omega, ?_⟩
    rw [List.length_map, Int.toNat_natCast]
    clear t1 t2 t3 t23 t4 hW hWH hq1 hg1 n2 n3 n4
    refine for_rangeN (fun i σ H' => ∃ (W : Addr) (ws : List Addr) (xs : List V) (g : V) (v7 v8 : Option V), σ = [some (.ref a), some (.int R), some (.int ((deep : Nat) : Int)), some (.ref c), some (.ref WH), some g, some (.ref W), v7, v8] ∧ WS K H H' WH W ws xs g ms R deep ∧ ws.length ≤ i) ⟨W, [], [], _, _, _, rfl, ws0, Nat.le_refl _⟩ ?_ ?_
    rotate_left
    · rintro σ H4 ⟨W, ws, xs, g, v7, v8, rfl, S, wl⟩
      refine ⟨_, rfl, _, rfl, (by show 1 ≤ sizeLine; decide), fun t nt => ?_⟩
      have s5 := Same.upd (o := .lst [.ref W]) nt
      have S5 := S.keep s5
      have ht := upd_same (H := H4) (a := t) (o := .lst [.ref W])
      generalize upd H4 t (.lst [.ref W]) = H5 at s5 S5 ht ⊢
      refine ⟨WH, t, _, _, rfl, rfl, S5.wh, ht, Nat.le_of_lt (size3000 (by rw [List.length_map]; show ws.length + 1 ≤ _; omega)), fun p np => ?_⟩
      have s6 := Same.upd (o := .lst (ws.map V.ref ++ [.ref W])) np
      have S6 := S5.keep s6
      refine k p (ws ++ [W]) _ S6.sm (by rw [upd_same, List.map_append]; rfl) (by rw [List.length_append]; exact Nat.le_add_left ..) (by rw [List.length_append]; show ws.length + 1 ≤ 64; omega) fun l hl => ?_
      rcases List.mem_append.mp hl with hl | hl
      · exact S6.wk l hl
      · rw [List.mem_singleton.mp hl]
        exact ⟨xs, S6.w, S6.xl, S6.xn⟩
    rintro i σ H4 D' hN hi ⟨W, ws, xs, g, v7, v8, rfl, S, wl⟩
    refine seq_nx (fun σ' H' => ∃ (W : Addr) (ws : List Addr) (xs : List V) (g : V), σ' = [some (.ref a), some (.int R), some (.int ((deep : Nat) : Int)), some (.ref c), some (.ref WH), some g, some (.ref W), some (.int (0 + ((i : Nat) : Int))), v8] ∧ WS K H H' WH W ws xs g ms R deep ∧ ws.length ≤ i + 1 ∧ (0 < deep → xs.length < deep)) ?_ (fun N hN2 => ?_)
    rotate_left
    · refine ⟨_, rfl, W, xs, rfl, .inl (SqL.of S.w), _, rfl, rfl, _, rfl, ite2 (fun he => ?_) (fun hne => ?_)⟩
      rotate_left
      · refine hN2 _ _ ⟨W, ws, xs, g, rfl, S, by omega, fun _ => ?_⟩
        have : xs.length ≠ deep := fun z => hne (decide_eq_true (by rw [z]))
        have := S.xl
        omega
      refine ⟨_, rfl, .inl ⟨rfl, _, SqL.of S.wh⟩, _, rfl, WH, _, .ref W, rfl, rfl, S.wh, small1000 (by rw [List.length_map]; omega), ?_⟩
      have tk5 : ∀ b ys, H4 b = some (.tup ys) → upd H4 WH (.lst (ws.map V.ref ++ [.ref W])) b = some (.tup ys) := fun b ys e => by
        rw [upd_ne (fun z => by rw [z, S.wh] at e; cases e)]
        exact e
      have wk5 : ∀ l ∈ ws ++ [W], Wk K (upd H4 WH (.lst (ws.map V.ref ++ [.ref W]))) l ms R deep := fun l hl => by
        rcases List.mem_append.mp hl with hl | hl
        · exact (S.wk l hl).keep (fun xs e => by rw [upd_ne (S.nws l hl).1]; exact e) tk5
        · rw [List.mem_singleton.mp hl]
          exact ⟨xs, by rw [upd_ne S.ne]; exact S.w, S.xl, S.xn.keep tk5⟩
      have wh5 : upd H4 WH (.lst (ws.map V.ref ++ [.ref W])) WH = some (.lst ((ws ++ [W]).map V.ref)) := by rw [upd_same, List.map_append]; rfl
      have sm5 : Same H (upd H4 WH (.lst (ws.map V.ref ++ [.ref W]))) := fun b o e => by
        rw [upd_ne (ne_of_none e S.nh)]
        exact S.sm _ _ e
      have nws5 : ∀ l ∈ ws ++ [W], l ≠ WH := fun l hl => by
        rcases List.mem_append.mp hl with hl | hl
        · exact (S.nws l hl).1
        · rw [List.mem_singleton.mp hl]; exact S.ne
      generalize upd H4 WH (.lst (ws.map V.ref ++ [.ref W])) = H5 at tk5 wk5 wh5 sm5 ⊢
      refine ⟨(by show 2 ≤ sizeLine; decide), fun q1 n2 => ⟨(by show 2 ≤ sizeLine; decide), fun g1 n3 => ?_⟩⟩
      have t2 := Same.upd (o := .tup [.int 0, .int 1]) n2
      have t3 := Same.upd (o := .tup [.int 0, .ref q1]) n3
      have hq1 := t3 _ _ (upd_same (H := H5) (a := q1) (o := .tup [.int 0, .int 1]))
      have hg1 := upd_same (H := upd H5 q1 (.tup [.int 0, .int 1])) (a := g1) (o := .tup [.int 0, .ref q1])
      have t23 := t2.trans t3
      generalize upd (upd H5 q1 (.tup [.int 0, .int 1])) g1 (.tup [.int 0, .ref q1]) = H6 at t23 hq1 hg1 ⊢
      refine ⟨(by show 0 ≤ sizeLine; decide), fun W' n4 => ?_⟩
      have t4 := Same.upd (o := .lst []) n4
      have hW := upd_same (H := H6) (a := W') (o := .lst [])
      have s57 := t23.trans t4
      have inW : ∀ l ∈ ws ++ [W], l ≠ W' := fun l hl z => by
        obtain ⟨ys, hy, _⟩ := wk5 l hl
        rw [← z, t23 _ _ hy] at n4
        cases n4
      refine hN2 _ _ ⟨W', ws ++ [W], [], .ref g1, rfl, ⟨sm5.trans s57, S.nh, (sm5.trans t23).free n4, s57 _ _ wh5, hW, fun z => ?_, fun l hl => ⟨nws5 l hl, inW l hl⟩, fun l hl => (wk5 l hl).keep (fun xs => s57 _ _) fun b ys => s57 _ _, Nat.zero_le _, fun j v hv => (by cases hv), ⟨_, List.mem_singleton.mpr rfl, nv_of (SqZ.of (t4 _ _ hg1)) (SqZ.of (t4 _ _ hq1))⟩⟩, by rw [List.length_append]; show ws.length + 1 ≤ _; omega, fun h => h⟩
      rw [z, t23 _ _ wh5] at n4
      cases n4
    clear S wl xs ws
    rintro σ' H5 ⟨W, ws, xs, g, rfl, S, wl, xd⟩
    obtain ⟨ky, hky, nv⟩ := S.gn
    have ok := lyr_ok mo.b r0 r1 hky
    have okk := ok.key
    have xl := S.xl
    obtain ⟨g0, g1', g2, g3, g4⟩ := (okk ▸ ok).bits (d := xs.length) (by omega)
    rw [okk] at nv
    obtain ⟨gg, q, rfl, hg, hq⟩ := nv_at nv
    refine ⟨_, rfl, _, rfl, _, rfl, a, gg, ms, R, _, _, _, rfl, ⟨S.sm.seq hl, by have := mo.l3; omega, mo.b, ⟨r0, r1⟩, ⟨g0, by omega⟩, g2, g3, g4, q, hg, hq⟩, fun sl H6 ss s6 nsl hsl SLs => ?_⟩
    have ed : EdX K H6 ss (eM ms R ky) := by
      rw [okk, eM_key]
      exact edx_of SLs
    have S6 := S.keep s6
    refine ⟨_, rfl, _, _, rfl, rfl, _, rfl, ite2 (fun dg => ?_) (fun _ => iteF (hN _ _ ⟨W, ws, xs, _, _, _, rfl, S6, by omega⟩))⟩
    have d0 : 0 < deep := by have := of_decide_eq_true dg; omega
    refine ⟨_, rfl, (by show 0 ≤ sizeLine; decide), fun e0 ne0 => ?_⟩
    have s7 := Same.upd (o := .lst []) ne0
    have he0 := upd_same (H := H6) (a := e0) (o := .lst [])
    generalize upd H6 e0 (.lst []) = H7 at s7 he0 ⊢
    have S7 := S6.keep s7
    have ed7 := ed.keep fun b ys => s7 _ _
    have hs7 := s7 _ _ hsl
    refine ⟨sl, e0, ss, rfl, rfl, SqL.of hs7, SqL.of he0, _, rfl, ite2 (fun he => ?_) (fun _ => hN _ _ ⟨W, ws, xs, _, _, _, rfl, S7, by omega⟩)⟩
    have lp : 0 < ss.length := by
      cases hx : ss with
      | nil => rw [hx] at he; cases he
      | cons _ _ => rw [List.length_cons]; omega
    obtain ⟨cc, hcc⟩ : ∃ cc, cs[i]? = some cc := ⟨_, List.getElem?_eq_getElem (by omega)⟩
    have hat : atI (cs.map V.int) (0 + ((i : Nat) : Int)) = some (.int cc) := by
      rw [Int.zero_add]
      exact atI_nat (by rw [List.getElem?_map, hcc]; rfl)
    refine ⟨_, rfl, _, rfl, _, rfl, c, _, _, .int cc, rfl, rfl, S7.sm.seq hc, hat, _, rfl, _, _, rfl, rfl, cc, _, rfl, by omega, by omega, fun mx m0 m1 => ?_⟩
    obtain ⟨j, ej, hj⟩ := natOf (i := mx) (m := ((ss.length : Nat) : Int)) (by omega)
    obtain ⟨x, hx⟩ : ∃ x, (eM ms R ky)[j]? = some x := ⟨_, List.getElem?_eq_getElem (by rw [← paired_len ed]; omega)⟩
    obtain ⟨v, hv, er, yd, yu, rfl, her, _, nvu⟩ := BF.paired_at ed7 hx
    refine ⟨_, rfl, sl, _, rfl, .inl (SqL.of hs7), _, _, rfl, rfl, (by show (0 : Int) < ((ss.length : Nat) : Int); omega), sl, _, _, .ref er, rfl, rfl, SqL.of hs7, (by rw [ej]; exact atI_nat hv), er, _, 1, yu, rfl, rfl, her.sq, rfl, ?_⟩
    refine ⟨_, rfl, .inl ⟨rfl, _, SqL.of S7.w⟩, _, rfl, W, _, yu, rfl, rfl, S7.w, small1000 (by omega), ?_⟩
    have tk8 : ∀ b ys, H7 b = some (.tup ys) → upd H7 W (.lst (xs ++ [yu])) b = some (.tup ys) := fun b ys e => by
      rw [upd_ne (fun z => by rw [z, S7.w] at e; cases e)]
      exact e
    have nx : x.2 ∈ lyr ms R (xs.length + 1) := lay_next hky (List.mem_of_getElem? hx)
    refine hN _ _ ⟨W, ws, xs ++ [yu], yu, _, _, rfl, ⟨fun b o e => ?_, S7.nh, S7.nw, by rw [upd_ne (Ne.symm S7.ne)]; exact S7.wh, upd_same, S7.ne, S7.nws, fun l hl => (S7.wk l hl).keep (fun ys e => by rw [upd_ne (S7.nws l hl).2]; exact e) tk8, by rw [List.length_append]; have := xd d0; show xs.length + 1 ≤ _; omega, fun j v hv => ?_, ⟨x.2, by rw [List.length_append]; exact nx, nvu.keep tk8⟩⟩, by omega⟩
    · rw [upd_ne (ne_of_none e S7.nw)]
      exact S7.sm _ _ e
    · rcases snoc_get hv with ⟨_, hv⟩ | ⟨e, rfl⟩
      · obtain ⟨k2, h1, h2⟩ := S7.xn j v hv
        exact ⟨k2, h1, h2.keep tk8⟩
      · rw [e]
        exact ⟨x.2, nx, nvu.keep tk8⟩
end
end K64

namespace K64
open PySem PySem.Spec PyProof.Rows L2 GM TM BF BE TR
/-! ### _law_is_it, _law_made -/
theorem gM_ok {R least : Int} {one : Int × Int} {d : Nat} {k : NKey} (h : okM R d k) : gM least one k = (decide (least ≤ (m3 k).1) && decide (stM (m3 k) = one)) := by
  obtain ⟨F, T, B, rfl, _⟩ := h
  rfl
def spIsIt (K : PySem.W.Frag) : Sp := fun vs H Q _ => ∃ (v : V) (b : Addr) (k : NKey) (d : Nat) (R least : Int) (one : Int × Int), vs = [v, .int least, .ref b] ∧ NV K H v k ∧ okM R d k ∧ d ≤ 60 ∧ R ≤ 10000 ∧ 1 ≤ least ∧ SqZ K H b [.int one.1, .int one.2] ∧ ∀ H', Same H H' → Q (.bl (gM least one k)) H'
/-- the deeds of a mixing's steps are unlike -/
theorem deeds_nd {ms : List Int} {R : Int} {d : Nat} {k : NKey} (mo : MsOk ms) (ok : okM R d k) : ((eM ms R k).map (·.1)).Nodup := by
  rw [ok.key, eM_key, List.map_map]
  unfold stepsOf
  rw [List.map_append, List.map_append, List.map_map, List.map_map, List.map_map]
  have nd : ms.Nodup := mo.so.imp fun h e => by omega
  have one : ∀ (x : Str) (f : Int → Bool) (g : Int → Dd), (∀ m, g m = (x, m)) → ((ms.filter f).map g).Nodup := fun x f g hg => by
    refine List.pairwise_map.mpr ((nd.sublist List.filter_sublist).imp fun {a b} n e => n ?_)
    rw [hg, hg] at e
    exact congrArg Prod.snd e
  have fst : ∀ (x : Str) (f : Int → Bool) (g : Int → Dd), (∀ m, g m = (x, m)) → ∀ y ∈ (ms.filter f).map g, y.1 = x := fun x f g hg y hy => by
    obtain ⟨m, _, rfl⟩ := List.mem_map.mp hy
    rw [hg]
  refine List.nodup_append.mpr ⟨List.nodup_append.mpr ⟨one "strong" _ _ fun m => rfl, one "thin" _ _ fun m => rfl, fun a ha b hb e => ?_⟩, one "off" _ _ fun m => rfl, fun a ha b hb e => ?_⟩
  · have h1 := fst "strong" _ _ (fun m => rfl) a ha
    have h2 := fst "thin" _ _ (fun m => rfl) b hb
    rw [e, h2] at h1
    exact absurd h1 (by decide)
  · have h2 := fst "off" _ _ (fun m => rfl) b hb
    rcases List.mem_append.mp ha with ha | ha
    · have h1 := fst "strong" _ _ (fun m => rfl) a ha
      rw [e, h2] at h1
      exact absurd h1 (by decide)
    · have h1 := fst "thin" _ _ (fun m => rfl) a ha
      rw [e, h2] at h1
      exact absurd h1 (by decide)
theorem filt_one {α β : Type} [DecidableEq β] {f : α → β} : ∀ {xs : List α} {x : α}, (xs.map f).Nodup → x ∈ xs → xs.filter (fun y => decide (f y = f x)) = [x]
  | y :: ys, x, nd, h => by
    rw [List.map_cons, List.nodup_cons] at nd
    rcases List.mem_cons.mp h with rfl | h
    · rw [List.filter_cons_of_pos (p := fun y => decide (f y = f x)) (decide_eq_true rfl)]
      congr 1
      refine List.filter_eq_nil_iff.mpr fun z hz e => nd.1 ?_
      rw [← of_decide_eq_true e]
      exact List.mem_map.mpr ⟨z, hz, rfl⟩
    · rw [List.filter_cons_of_neg (p := fun y => decide (f y = f x)) fun e => nd.1 (by rw [of_decide_eq_true e]; exact List.mem_map.mpr ⟨x, h, rfl⟩)]
      exact filt_one nd.2 h
theorem op_eqTK {X : Cx} {K : PySem.W.Frag} (h : X.K = K) (hu : X.A.units + 64 < cLine) : OpR X (compareOp .Eq) (rEqT K) := h ▸ op_eqT hu
def spMade (K : PySem.W.Frag) : Sp := fun vs H Q _ => ∃ (a l b : Addr) (ms : List Int) (R least : Int) (one : Int × Int) (ds : List V) (dd : List Dd) (kt : NKey), vs = [.ref a, .int R, .ref l, .int least, .ref b] ∧ SqL K H a (ms.map V.int) ∧ MsOk ms ∧ 0 ≤ R ∧ R ≤ 10000 ∧ H l = some (.lst ds) ∧ Dds K H ds dd ∧ dd.length ≤ 6 ∧ Pth (eM ms R) (keyM 0 0 1) dd kt ∧ 1 ≤ least ∧ SqZ K H b [.int one.1, .int one.2] ∧ (∀ i, i < dd.length → ∀ k ∈ lyr ms R i, gM least one k = false) ∧ gM least one kt = true ∧ ∀ H', Q (.bl true) H'
section
variable {P : Program} {w : World} {K : PySem.W.Frag} {mg : Str → Option Value} {base : Heap}
theorem scIs : FnScope ["_law_mixing", "_law_least", "_law_one"] ["_law_mixing", "_law_least", "_law_one"] (defScope sLIsIt) := ⟨rfl, rfl, rfl, by decide +kernel, rfl, by decide +kernel, by decide +kernel⟩
theorem ok_isit {f : Addr} {fd : FuncData} (F : Fun K "_law_is_it" "_law_is_it" sLIsIt f fd) (cS : Cal P w K mg base CX0 3 "_law_strength" ["_law_mixing"] (spStr K)) : FnOk P w K mg base CX0 4 f fd ["_law_mixing", "_law_least", "_law_one"] (spIsIt K) := by
  refine F.ok scIs (fun vs H Q E h => ?_) (fun cdv A outer s H vs Q E hr h => ?_)
  · obtain ⟨_, _, _, _, _, _, _, rfl, _⟩ := h
    rfl
  · obtain ⟨v, b, k, d, R, least, one, rfl, nv, ok, d60, r1, l1, hb, kk⟩ := h
    refine ⟨_, (pss_one (ps_ret (pe_and (pe_cmpR op_ge (pit 0 0) (pv 1) (nomark _)) (pe_one (pe_cmpR (op_eqT hr.units) (pe_cal cS hr rfl pass0 (pa_cons (pv 0) pa_nil)) (pv 2) (nomark _)))))), ?_⟩
    rw [gM_ok ok] at kk
    rw [ok.key] at nv
    obtain ⟨g, q, rfl, hg, hq⟩ := nv_at nv
    refine ⟨g, _, _, rfl, hg.sq, rfl, _, rfl, _, _, rfl, rfl, _, rfl, ?_⟩
    by_cases lf : least ≤ (m3 k).1
    · have e1 : decide ((m3 k).1 ≥ least) = true := decide_eq_true lf
      have mx := ok.mx d60 r1 l1 lf
      rw [e1]
      rw [decide_eq_true lf, Bool.true_and] at kk
      exact iteT ⟨_, rfl, g, q, _, _, _, rfl, hg, hq, mx.am, mx.bt, mx.bb, mx.f1, mx.f2, fun p H2 s2 hp => ⟨_, rfl, eq_two hp.sq (LK.sz_keep hb fun b ys => s2 _ _).sq (kk _ s2)⟩⟩
    · have e1 : decide ((m3 k).1 ≥ least) = false := decide_eq_false lf
      rw [e1]
      rw [decide_eq_false lf, Bool.false_and] at kk
      exact iteF (kk _ (Same.refl _))
abbrev Nma : List Str := ["_law_measures_here", "_law_room", "_law_way", "_law_least", "_law_one", "_law_mixing", "_law_deed", "_law_next_ones"]
theorem scMa : FnScope Nma ["_law_measures_here", "_law_room", "_law_way", "_law_least", "_law_one"] (defScope sLMade) := ⟨rfl, rfl, rfl, by decide +kernel, rfl, by decide +kernel, by decide +kernel⟩
theorem ndSd : (["_law_step", "_law_deed"] : List Str).Nodup := by decide +kernel
theorem ok_made {f : Addr} {fd : FuncData} (F : Fun K "_law_made" "_law_made" sLMade f fd) (T : Txt mg) (cI : Cal P w K mg base CX0 4 "_law_is_it" ["_law_mixing", "_law_least", "_law_one"] (spIsIt K)) (cM : Cal P w K mg base CX0 4 "_law_mixings" ["_law_measures_here", "_law_room", "_law_mixing"] (K64.spSteps K)) : FnOk P w K mg base CX0 5 f fd ["_law_measures_here", "_law_room", "_law_way", "_law_least", "_law_one"] (spMade K) := by
  refine F.ok scMa (fun vs H Q E h => ?_) (fun cdv A outer s H vs Q E hr h => ?_)
  · obtain ⟨_, _, _, _, _, _, _, _, _, _, rfl, _⟩ := h
    rfl
  · obtain ⟨a, l, b, ms, R, least, one, ds, dd, kt, rfl, hl, mo, r0, r1, hw, dds, d6, pth, l1, hb, no, yes, k⟩ := h
    refine ⟨_, (pss_cons (ps_set (i := 5) scMa.nd rfl (Or.inl rfl) (pe_tup (pa_cons pe_int (pa_cons (pe_tup (pa_cons pe_int (pa_cons pe_int pa_nil))) pa_nil))))
      (pss_cons (ps_for PassesOwn.never rfl (pi_list (pv 2)) (pg_name (i := 6) scMa.nd rfl (Or.inr rfl))
        (pss_cons (ps_if (pt_val (pe_cal cI hr rfl pass0 (pa_cons (pv 5) (pa_cons (pv 3) (pa_cons (pv 4) pa_nil)))))
          (pss_one (ps_ret pe_bl))
          pss_nil)
        (pss_cons (ps_compC (iy := 7) (N' := ["_law_step", "_law_deed"]) (fun σ => [none, some 6].map fun t => t.bind fun j => (σ[j]?).join) rfl rfl (by decide +kernel) (by decide +kernel)
          (hk_of (sc := defScope sLMade) rfl (by decide +kernel)) (fun _ _ _ => blkN_by (sc := defScope sLMade) (N := Nma) [none, some 6] rfl rfl rfl rfl (by decide +kernel))
          (pi_list (pe_cal cM hr rfl pass0 (pa_cons (pv 0) (pa_cons (pv 1) (pa_cons (pv 5) pa_nil))))) (fun _ _ _ _ _ _ => pg_name (i := 0) ndSd rfl (Or.inl rfl)) (fun _ _ _ _ _ _ => pifs_one (pt_cmpR (op_eqTK (K := K) rfl hr.units) (pe_ix (ix_tupK (K := K) rfl) (pv 0) pe_int (fun _ _ => rfl)) (pv 1) (nomark _))) (fun _ _ _ _ _ _ => pe_ix (ix_tupK (K := K) rfl) (pv 0) pe_int (fun _ _ => rfl)) scMa.nd rfl (Or.inl rfl) (Or.inr rfl) rfl)
        (pss_cons (ps_if (pt_cmpR op_ne (pe_callB call_len_seq rfl T.len PySem.boot_len (pa_cons (pv 7) pa_nil)) pe_int (nomark _))
          (pss_one (ps_ret pe_bl))
          pss_nil)
        (pss_one (ps_set (i := 5) scMa.nd rfl (Or.inl rfl) (pe_ix ix_list (pv 7) pe_int (fun _ _ => rfl))))))))
      (pss_one (ps_ret (pe_cal cI hr rfl pass0 (pa_cons (pv 5) (pa_cons (pv 3) (pa_cons (pv 4) pa_nil)))))))), ?_⟩
    have dl := paired_len dds
    refine ⟨(by show 2 ≤ sizeLine; decide), fun q1 n2 => ⟨(by show 2 ≤ sizeLine; decide), fun g1 n3 => ?_⟩⟩
    have t2 := Same.upd (o := .tup [.int 0, .int 1]) n2
    have t3 := Same.upd (o := .tup [.int 0, .ref q1]) n3
    have hq1 := t3 _ _ (upd_same (H := H) (a := q1) (o := .tup [.int 0, .int 1]))
    have hg1 := upd_same (H := upd H q1 (.tup [.int 0, .int 1])) (a := g1) (o := .tup [.int 0, .ref q1])
    have t23 := t2.trans t3
    generalize upd (upd H q1 (.tup [.int 0, .int 1])) g1 (.tup [.int 0, .ref q1]) = H1 at t23 hq1 hg1 ⊢
    refine ⟨_, rfl, l, rfl, ⟨_, SqL.of (t23 _ _ hw)⟩, ?_⟩
    refine for_list (xs := ds) (fun i σ H' => ∃ (g : V) (ky : NKey) (v6 v7 : Option V), σ = [some (.ref a), some (.int R), some (.ref l), some (.int least), some (.ref b), some g, v6, v7] ∧ Same H H' ∧ NV K H' g ky ∧ ky ∈ lyr ms R i ∧ Pth (eM ms R) ky (dd.drop i) kt) ⟨.ref g1, _, _, _, rfl, t23, nv_of (SqZ.of hg1) (SqZ.of hq1), List.mem_singleton.mpr rfl, pth⟩ ?_ ?_ ?_
    · rintro i σ H' _ ⟨_, _, _, _, _, s1, _⟩
      exact SqL.of (s1 _ _ hw)
    rotate_left
    · rintro σ H2 ⟨g, ky, v6, v7, rfl, s2, nv, hky, pt⟩
      rw [dl, List.drop_length] at pt
      cases pt
      refine ⟨_, rfl, _, rfl, _, rfl, g, b, kt, _, R, least, one, rfl, nv, lyr_ok mo.b r0 r1 hky, by omega, r1, l1, LK.sz_keep hb fun b ys => s2 _ _, fun H3 s3 => ?_⟩
      rw [yes]
      exact k _
    rintro i x σ H2 hx ⟨g, ky, v6, v7, rfl, s2, nv, hky, pt⟩
    have il : i < dd.length := by have := (List.getElem?_eq_some_iff.mp hx).1; omega
    obtain ⟨dv, hdv⟩ : ∃ dv, dd[i]? = some dv := ⟨_, List.getElem?_eq_getElem il⟩
    obtain ⟨_, hx', da, rfl, hda⟩ := BF.paired_at dds hdv
    rw [hx] at hx'
    cases hx'
    have ok := lyr_ok mo.b r0 r1 hky
    refine ⟨_, rfl, _, rfl, _, rfl, g, b, ky, i, R, least, one, rfl, nv, ok, by omega, r1, l1, LK.sz_keep hb fun b ys => s2 _ _, fun H3 s3 => ⟨_, rfl, ?_⟩⟩
    rw [no i il ky hky]
    refine iteF ?_
    have s23 := s2.trans s3
    have okk := ok.key
    have nv3 := nv.keep fun b ys => s3 _ _
    obtain ⟨g0, g1', g2, g3, g4⟩ := (okk ▸ ok).bits (d := i) (by omega)
    rw [okk] at nv3
    obtain ⟨gg, q, rfl, hg, hq⟩ := nv_at nv3
    refine ⟨_, rfl, _, rfl, _, rfl, a, gg, ms, R, _, _, _, rfl, ⟨s23.seq hl, by have := mo.l3; omega, mo.b, ⟨r0, r1⟩, ⟨g0, by omega⟩, g2, g3, g4, q, hg, hq⟩, fun c H4 ss s4 nc hc sl => ?_⟩
    have ed : EdX K H4 ss (eM ms R ky) := by
      rw [okk, eM_key]
      exact edx_of sl
    have edl := paired_len ed
    have el9 := eM_len' mo.l3 ok
    rw [BE.drop_cons' hdv] at pt
    obtain ⟨x0, hx0, ex0, pt'⟩ : ∃ x0 ∈ eM ms R ky, x0.1 = dv ∧ Pth (eM ms R) x0.2 (dd.drop (i + 1)) kt := by
      generalize hd : dv :: dd.drop (i + 1) = rest at pt
      cases pt with
      | nil => cases hd
      | cons h1 h2 =>
        injection hd with e1 e2
        exact ⟨_, h1, e1.symm, by rw [e2]; exact h2⟩
    refine ⟨c, rfl, ⟨_, SqL.of hc⟩, fun Dc nDc => ?_⟩
    refine comp_pair (Ys.list (SqL.of hc)) (eM ms R ky) edl (fun y => decide (y.1 = x0.1)) (fun x y H => NV K H y x.2) (fun _ _ _ _ h t => h.keep t) nDc (by omega) (fun t v e H5 R1 R2 hv he sm q1 q2 => ?_) (fun ys H5 s5 hD5 pr => ?_)
    · obtain ⟨_, hv', r, d, u, rfl, hr', ⟨dq, rfl, hdq⟩, nvu⟩ := BF.paired_at ed he
      rw [hv] at hv'
      cases hv'
      have hr5 := (LK.sz_keep hr' fun b ys => sm _ _).sq
      refine ⟨(Keep.refl _).set rfl, _, rfl, r, _, 0, .ref dq, rfl, rfl, hr5, rfl, _, rfl, eq_dd (x := e.1) (y := dv) (LK.sz_keep hdq fun b ys => sm _ _).sq (LK.sz_keep hda fun b ys e => sm _ _ (s4 _ _ (s23 _ _ e))).sq ⟨_, rfl, ?_⟩⟩
      by_cases c1 : e.1 = dv
      · rw [decide_eq_true c1]
        exact iteT ⟨_, rfl, r, _, 1, u, rfl, rfl, hr5, rfl, q1 (decide_eq_true (by rw [c1, ex0])) _ _ (Same.refl _) (nvu.keep fun b ys => sm _ _)⟩
      · rw [decide_eq_false c1]
        exact iteF (q2 (decide_eq_false (by rw [ex0]; exact c1)) _ (Same.refl _))
    rw [filt_one (deeds_nd mo ok) hx0] at pr
    cases pr with
    | @cons y0 _ ys' _ nv0 t0 =>
      cases t0
      refine ⟨_, rfl, Dc, _, rfl, .inl (SqL.of hD5), rfl, _, rfl, iteF ?_⟩
      refine ⟨_, rfl, Dc, _, 0, y0, rfl, rfl, SqL.of hD5, rfl, ?_⟩
      exact ⟨y0, x0.2, _, _, rfl, s23.trans (s4.trans s5), nv0, lay_next hky hx0, pt'⟩
end
end K64

namespace K64
open PySem PySem.Spec PyProof.Rows L2 GM TM BF BE TR
/-! ### _law_listed, _law_asked -/
def spListed (K : PySem.W.Frag) : Sp := fun vs H Q _ => ∃ (l : Addr) (ys : List V) (fr : List (Int × Int)), vs = [.ref l] ∧ SqL K H l ys ∧ FrZ K H ys fr ∧ (∀ x ∈ fr, AmB x ∧ x.1 ≤ x.2) ∧ fr.Pairwise Lf ∧ Q (.bl true) H
structure CalD (P : Program) (w : World) (K : PySem.W.Frag) (mg : Str → Option Value) (base : Heap) (CX : CXT) (k : Nat) (x : Str) (ps : List Str) (sp : Sp) (dvs : List V) : Prop where
  ex : ∃ (f : Addr) (fd : FuncData) (ds : List Value), mg x = some (.ref f) ∧ PySem.W.keepIn K (.ref f) = true ∧ L2.Binds K fd ps ds ∧ Vals dvs ds ∧ FnOk P w K mg base CX k f fd ps sp
theorem pe_calD {X : Cx} {CX : CXT} {k : Nat} {x : Str} {ps : List Str} {sp : Sp} {dvs : List V} {E : XK} {e : Expr} {es : List Expr} {t : TA} {p pos : Pos} (C : CalD X.prog X.w X.K X.mg X.base CX k x ps sp dvs) (hr : Room k X.A) (hg : Gl X x) (hx : Passes CX X E)
    (ha : PA X (e :: es) t) (hdb : (x == ("__debug__" : Str)) = false := by decide) (he : starEach (e :: es) X.env = (false, eval e X.env) :: starEach es X.env := by rfl) (hpl : (backTo pos (starEach es X.env)).any (·.1) = false := by rfl) :
    PE X (.Call (.Name x p) (e :: es) [] pos) (tCall sp dvs E t) := by
  obtain ⟨f, fd, ds, hm, hk, hb, r, F⟩ := C.ex
  exact pe_call F hr hg hm hk hb r hx ha hdb he hpl
abbrev psA : List Str := ["measures", "room", "one", "least", "deepest", "most"]
def spLask (K : PySem.W.Frag) (T1 T2 cM : Addr) : Sp := fun vs H Q _ => ∃ (a b : Addr) (ms : List Int) (R least : Int) (one : Int × Int) (deep : Nat) (sh : Bool), vs = [.ref a, .int R, .ref b, .int least, .int ((deep : Nat) : Int), .bl sh] ∧ Tb H T1 T2 ∧ SqL K H a (ms.map V.int) ∧ MsOk ms ∧ 0 ≤ R ∧ R ≤ 10000 ∧ SqZ K H b [.int one.1, .int one.2] ∧ 1 ≤ least ∧ deep ≤ 60 ∧
  ∀ most : Nat, 1500 ≤ most → most ≤ 2000 → OutA K (eM ms R) T1 T2 cM least most H Q L2.E0 (BE.bfs (bM ms R least one deep most) (keyM 0 0 1))
section
variable {P : Program} {w : World} {K : PySem.W.Frag} {mg : Str → Option Value} {base : Heap} {cM T1 T2 : Addr}
theorem scLi : FnScope ["_law_found", "_law_last", "_law_one"] ["_law_found"] (defScope sLListed) := ⟨rfl, rfl, rfl, by decide +kernel, rfl, by decide +kernel, by decide +kernel⟩
theorem ok_listed {f : Addr} {fd : FuncData} (F : Fun K "_law_listed" "_law_listed" sLListed f fd) (T : Txt mg) (cW : Cal P w K mg base CX0 1 "_law_whole" ["_law_found"] spWhole) (cD : Cal P w K mg base CX0 1 "_law_divisor" ["_law_one", "_law_other"] spGcd) : FnOk P w K mg base CX0 2 f fd ["_law_found"] (spListed K) := by
  refine F.ok scLi (fun vs H Q E h => ?_) (fun cdv A oo s H vs Q E hr h => ?_)
  · obtain ⟨_, _, _, rfl, _⟩ := h
    rfl
  · obtain ⟨l, ys, fr, rfl, hl, fz, am, pw, k⟩ := h
    refine ⟨_, (pss_cons (ps_if (pt_not (pt_val (pe_callB call_isi rfl T.isi boot_isinstance (pa_cons (pv 0) (pa_cons (pe_bltn (v := .ty "list") rfl T.list' bt_list rfl) pa_nil)))))
        (pss_one (ps_ret pe_bl))
        pss_nil)
      (pss_cons (ps_set (i := 1) scLi.nd rfl (Or.inl rfl) pe_non)
      (pss_cons (ps_for PassesOwn.never rfl (pi_list (pv 0)) (pg_name (i := 2) scLi.nd rfl (Or.inl rfl))
        (pss_cons (ps_if (PW.pt (pw_or (pt_not (pt_val (pe_callB call_isi rfl T.isi boot_isinstance (pa_cons (pv 2) (pa_cons (pe_bltn (v := .ty "tuple") rfl T.tup' bt_tuple rfl) pa_nil))))) (pw_or (pt_cmpR op_ne (pe_callB call_len_seq rfl T.len PySem.boot_len (pa_cons (pv 2) pa_nil)) pe_int (nomark _)) (pw_or (pt_not (pt_val (pe_cal cW hr rfl pass0 (pa_cons (pit 2 0) pa_nil)))) (pw_or1 (pt_not (pt_val (pe_cal cW hr rfl pass0 (pa_cons (pit 2 1) pa_nil)))))))))
          (pss_one (ps_ret pe_bl))
          pss_nil)
        (pss_cons (ps_if (PW.pt (pw_or (pt_cmpR op_lt (pit 2 1) pe_int (nomark _)) (pw_or (pt_not (pt_chain op_le op_le pe_int (pit 2 0) (pit 2 1))) (pw_or1 (pt_cmpR op_ne (pe_cal cD hr rfl pass0 (pa_cons (pit 2 0) (pa_cons (pit 2 1) pa_nil))) pe_int (nomark _))))))
          (pss_one (ps_ret pe_bl))
          pss_nil)
        (pss_cons (ps_if (PW.pt (pw_and (pt_cmpR op_notN (pv 1) pe_non (nomark _)) (pw_and1 (pt_cmpR op_ge (pe_op op_mulB (pit 1 0) (pit 2 1)) (pe_op op_mulB (pit 2 0) (pit 1 1)) (nomark _)))))
          (pss_one (ps_ret pe_bl))
          pss_nil)
        (pss_one (ps_set (i := 1) scLi.nd rfl (Or.inl rfl) (pv 2)))))))
      (pss_one (ps_ret pe_bl))))), ?_⟩
    have yl := paired_len fz
    refine ⟨_, rfl, _, "list", true, rfl, .lst_list hl, _, rfl, iteF ?_⟩
    refine ⟨_, rfl, l, rfl, ⟨_, hl⟩, ?_⟩
    refine for_list (xs := ys) (fun i σ H' => ∃ (v1 : V) (v2 : Option V), σ = [some (.ref l), some v1, v2] ∧ H' = H ∧ ((i = 0 ∧ v1 = .non) ∨ ∃ (j : Nat) (b : Addr) (y : Int × Int), i = j + 1 ∧ fr[j]? = some y ∧ v1 = .ref b ∧ SqZ K H b [.int y.1, .int y.2])) ⟨_, _, rfl, rfl, .inl ⟨rfl, rfl⟩⟩ ?_ ?_ ?_
    · rintro i σ H' _ ⟨_, _, _, rfl, _⟩
      exact hl
    rotate_left
    · rintro σ H' ⟨v1, v2, rfl, rfl, _⟩
      exact k
    rintro i x σ H' hx ⟨v1, v2, rfl, rfl, last⟩
    obtain ⟨one, ho⟩ : ∃ one, fr[i]? = some one := ⟨_, List.getElem?_eq_getElem (by have := (List.getElem?_eq_some_iff.mp hx).1; omega)⟩
    obtain ⟨_, hx', a, rfl, ha⟩ := BF.paired_at fz ho
    rw [hx] at hx'
    cases hx'
    obtain ⟨ab, le⟩ := am one (List.mem_of_getElem? ho)
    have b1 := ab.a.b1
    have t0 := ab.a.t0
    refine ⟨_, rfl, _, "tuple", true, rfl, .tup_tuple ha.sq, _, rfl, iteF ⟨_, rfl, a, _, rfl, .inr ha.sq, rfl, _, rfl, iteF ⟨a, _, _, rfl, ha.sq, rfl, _, rfl, _, rfl, iteF ⟨a, _, _, rfl, ha.sq, rfl, _, rfl, _, rfl, iteF ?_⟩⟩⟩⟩
    refine ⟨a, _, _, rfl, ha.sq, rfl, _, _, rfl, rfl, _, rfl, ?_⟩
    rw [decide_eq_false (show ¬ one.2 < 1 by omega)]
    refine iteF ⟨a, _, _, rfl, ha.sq, rfl, _, _, rfl, rfl, _, rfl, ?_⟩
    rw [decide_eq_true (show (0 : Int) ≤ one.1 by omega)]
    refine iteT ⟨a, _, _, rfl, ha.sq, rfl, _, _, rfl, rfl, _, rfl, ?_⟩
    rw [decide_eq_true le]
    refine iteF ⟨a, _, _, rfl, ha.sq, rfl, a, _, _, rfl, ha.sq, rfl, one.1, one.2, rfl, t0, by omega, ?_⟩
    rw [ab.a.g]
    refine ⟨rfl, _, rfl, iteF ?_⟩
    rcases last with ⟨rfl, rfl⟩ | ⟨j, b, y, rfl, hy, rfl, hb⟩
    · exact ⟨_, rfl, rfl, _, rfl, iteF (iteF ⟨_, rfl, _, _, rfl, rfl, .inr ⟨0, a, one, rfl, ho, rfl, ha⟩⟩)⟩
    · obtain ⟨yb, _⟩ := am y (List.mem_of_getElem? hy)
      have lf : Lf y one := by
        have h1 := List.getElem?_eq_some_iff.mp hy
        have h2 := List.getElem?_eq_some_iff.mp ho
        have := List.pairwise_iff_getElem.mp pw j (j + 1) h1.1 h2.1 (by omega)
        rw [h1.2, h2.2] at this
        exact this
      refine ⟨_, rfl, rfl, _, rfl, iteT ⟨b, _, _, rfl, hb.sq, rfl, a, _, _, rfl, ha.sq, rfl, _, _, rfl, rfl, ⟨yb.t.mono (by decide), ab.b.mono (by decide)⟩, a, _, _, rfl, ha.sq, rfl, b, _, _, rfl, hb.sq, rfl, _, _, rfl, rfl, ⟨ab.t.mono (by decide), yb.b.mono (by decide)⟩, _, _, rfl, rfl, _, rfl, ?_⟩⟩
      rw [decide_eq_false (show ¬ y.1 * one.2 ≥ one.1 * y.2 by unfold Lf at lf; omega)]
      exact iteF ⟨_, rfl, _, _, rfl, rfl, .inr ⟨j + 1, a, one, rfl, ho, rfl, ha⟩⟩
theorem scAs : FnScope ["_law_measures_here", "_law_room", "_law_one", "_law_least", "_law_deepest", "_law_short"] ["_law_measures_here", "_law_room", "_law_one", "_law_least", "_law_deepest", "_law_short"] (defScope sLAsked) := ⟨rfl, rfl, rfl, by decide +kernel, rfl, by decide +kernel, by decide +kernel⟩
theorem ok_lask {f : Addr} {fd : FuncData} (F : Fun K "_law_asked" "_law_asked" sLAsked f fd) (c3 : CalD P w K mg base (CXg P w) 8 "asked_for" psA (spAsked K T1 T2 cM) [.int 1, .int 6, .int 2000]) (c5 : CalD P w K mg base (CXg P w) 8 "asked_for" psA (spAsked K T1 T2 cM) [.int 2000]) (c6 : CalD P w K mg base (CXg P w) 8 "asked_for" psA (spAsked K T1 T2 cM) []) : FnOk P w K mg base CX0 9 f fd ["_law_measures_here", "_law_room", "_law_one", "_law_least", "_law_deepest", "_law_short"] (spLask K T1 T2 cM) := by
  refine F.ok scAs (fun vs H Q E h => ?_) (fun cdv A oo s H vs Q E hr h => ?_)
  · obtain ⟨_, _, _, _, _, _, _, _, rfl, _⟩ := h
    rfl
  · obtain ⟨a, b, ms, R, least, one, deep, sh, rfl, tb, hl, mo, r0, r1, hb, l1, d60, out⟩ := h
    refine ⟨_, (pss_cons (ps_if (PW.pt (pw_and (pt_cmpR op_eq (pv 4) pe_int (nomark _)) (pw_and1 (pt_cmpR op_eq (pv 3) pe_int (nomark _)))))
        (pss_one (ps_ret (pe_calD c3 hr rfl passY (pa_cons (pv 0) (pa_cons (pv 1) (pa_cons (pv 2) pa_nil))))))
        pss_nil)
      (pss_cons (ps_if (pt_val (pv 5))
        (pss_one (ps_ret (pe_calD c5 hr rfl passY (pa_cons (pv 0) (pa_cons (pv 1) (pa_cons (pv 2) (pa_cons (pv 3) (pa_cons (pv 4) pa_nil))))))))
        pss_nil)
      (pss_one (ps_ret (pe_calD c6 hr rfl passY (pa_cons (pv 0) (pa_cons (pv 1) (pa_cons (pv 2) (pa_cons (pv 3) (pa_cons (pv 4) (pa_cons pe_int pa_nil))))))))))), ?_⟩
    refine ⟨_, rfl, rfl, _, rfl, ite2 (fun h1 => ⟨_, rfl, rfl, _, rfl, ite2 (fun h2 => ?_) (fun h2 => ?_)⟩) (fun h1 => iteF ?_)⟩
    · have e1 : ((deep : Nat) : Int) = 6 := by have := of_decide_eq_true h1; injection this
      have e2 : least = 1 := by have := of_decide_eq_true h2; injection this
      have e3 : deep = 6 := by omega
      subst e2 e3
      exact ⟨_, rfl, _, rfl, _, rfl, a, b, ms, R, 1, one, 6, 2000, rfl, tb, hl, mo, r0, r1, hb, l1, d60, by decide, by decide, out 2000 (by decide) (by decide)⟩
    · refine ⟨_, rfl, _, rfl, ite2 (fun _ => ?_) (fun _ => ?_)⟩
      · exact ⟨_, rfl, _, rfl, _, rfl, _, rfl, _, rfl, a, b, ms, R, least, one, deep, 2000, rfl, tb, hl, mo, r0, r1, hb, l1, d60, by decide, by decide, out 2000 (by decide) (by decide)⟩
      · exact ⟨_, rfl, _, rfl, _, rfl, _, rfl, _, rfl, a, b, ms, R, least, one, deep, 1500, rfl, tb, hl, mo, r0, r1, hb, l1, d60, by decide, by decide, out 1500 (by decide) (by decide)⟩
    · refine ⟨_, rfl, _, rfl, ite2 (fun _ => ?_) (fun _ => ?_)⟩
      · exact ⟨_, rfl, _, rfl, _, rfl, _, rfl, _, rfl, a, b, ms, R, least, one, deep, 2000, rfl, tb, hl, mo, r0, r1, hb, l1, d60, by decide, by decide, out 2000 (by decide) (by decide)⟩
      · exact ⟨_, rfl, _, rfl, _, rfl, _, rfl, _, rfl, a, b, ms, R, least, one, deep, 1500, rfl, tb, hl, mo, r0, r1, hb, l1, d60, by decide, by decide, out 1500 (by decide) (by decide)⟩
end
end K64

/-! ### max(ints) -/
namespace L2
open PySem PySem.Spec PyProof.Rows
theorem call_maxL {X : Cx} (hc : X.calm = true) : CallR X (.builtin "max") (fun xs H Q => ∃ (l : Addr) (ns : List Int), xs = [.ref l] ∧ SqL X.K H l (ns.map V.int) ∧ 0 < ns.length ∧ ∀ m ∈ ns, (∀ a ∈ ns, a ≤ m) → Q (.int m) H) := by
  intro pins s σ H xs us Q I r h
  obtain ⟨l, ns, rfl, hl, hp, q⟩ := h
  obtain ⟨u, rfl, rx⟩ := vals1 r
  cases rx
  obtain ⟨its, r', pl, hz⟩ := I.list hl
  have hi := intsAre_of r'
  obtain ⟨xs, e⟩ := hi.allInts.items
  have hns : ns = xs.toList.map (·.1) := by rw [← hi.numsOf, ← nums_intItems, ← e]
  have hL : s.heap.IsList l (intItems xs) := e ▸ pl.isList
  have hsz : 0 < xs.size := by rw [hns, List.length_map, Array.length_toList] at hp; exact hp
  refine max_intList (I.ok.hd hc) hL hsz fun v h' tk hv keep => ?_
  obtain ⟨t, rfl⟩ := intItems_at hv
  obtain ⟨g1, g2⟩ := argBest_gt (numAt xs) (xs.size - 1)
  refine ⟨.int (numAt xs (argBest (fun i j => decide (numAt xs i > numAt xs j)) (xs.size - 1))), H, I.kept keep, ⟨t, rfl⟩, q _ ?_ fun a ha => ?_⟩
  · rw [hns, numAt_eq]; exact getD_mem (by rw [List.length_map, Array.length_toList]; omega)
  · rw [hns] at ha
    obtain ⟨j, hj, rfl⟩ := mem_getD ha
    rw [List.length_map, Array.length_toList] at hj
    rw [← numAt_eq]; exact g2 j (by omega)
end L2

namespace K64
open PySem PySem.Spec PyProof.Rows L2 GM TM BF BE TR
/-! ### what is found -/
theorem low_le {t b x : Int} (h0 : 0 ≤ t) (h1 : 1 ≤ b) (h : t ≤ b * x) : lt' t b ≤ lb' t b * x := by
  have c : lt' t b * b = t * lb' t b := low_cross t b
  have q := (low_amt h0 h1).b1
  have q : 1 ≤ lb' t b := q
  have e : t * lb' t b ≤ (b * x) * lb' t b := Int.mul_le_mul_of_nonneg_right h (by omega)
  have r : (b * x) * lb' t b = (lb' t b * x) * b := by grind
  rw [← c, r] at e
  exact Int.le_of_mul_le_mul_right e (by omega)
theorem lyr_le {ms : List Int} {R : Int} (mo : MsOk ms) (r0 : 0 ≤ R) (hR : R ≤ 10000) : ∀ {n : Nat} {k : NKey}, k ∈ lyr ms R n → (m3 k).2.1 ≤ (m3 k).2.2 * (m3 k).1
  | 0, k, h => by rw [List.mem_singleton.mp h]; decide
  | n + 1, k, h => by
    obtain ⟨k', x, h1, h2, rfl⟩ := lay_prev h
    have ih := lyr_le mo r0 hR h1
    have ok := lyr_ok mo.b r0 hR h1
    obtain ⟨F, T, B, rfl, f0, fR, am, _⟩ := ok
    have ih : T ≤ B * F := ih
    obtain ⟨m, mm, hc⟩ := eM_mem h2
    have m1 := (mo.b m mm).1
    have b1 := am.b1
    have t0 := am.t0
    have mB : 0 ≤ m * B := Int.mul_nonneg (by omega) (by omega)
    have eB : B * (F + m) = B * F + m * B := by rw [Int.mul_add, Int.mul_comm B m]
    rcases hc with ⟨_, rfl | rfl⟩ | ⟨mf, rfl⟩
    · exact low_le (x := F + m) (by omega) b1 (by rw [eB]; omega)
    · show T ≤ B * (F + m)
      rw [eB]
      omega
    · have p1 : 0 ≤ T * (F - m) := Int.mul_nonneg t0 (by omega)
      have p2 : 1 ≤ B * F := by
        have := Int.mul_le_mul b1 (show 1 ≤ F by omega) (by decide) (by omega)
        omega
      exact low_le (x := F - m) p1 p2 (Int.mul_le_mul_of_nonneg_right ih (by omega))
theorem st_le {k : NKey} (h : MxOk (m3 k)) (l : (m3 k).2.1 ≤ (m3 k).2.2 * (m3 k).1) : (stM (m3 k)).1 ≤ (stM (m3 k)).2 := by
  have p2 : 1 ≤ (m3 k).2.2 * (m3 k).1 := by
    have := Int.mul_le_mul h.am.b1 h.f1 (by decide) (by have := h.am.b1; omega)
    omega
  have := low_le (x := 1) h.am.t0 p2 (by rw [Int.mul_one]; exact l)
  rwa [Int.mul_one] at this
/-- what asked_for has told -/
def FD (K : PySem.W.Frag) (H : Hp) (z : Addr) (ms : List Int) (R least : Int) (one : Int × Int) (deep : Nat) : Prop :=
  (∃ (l : Addr) (ds : List V) (dd : List Dd) (kt : NKey), H z = some (.tup [.str "made", .ref l]) ∧ H l = some (.lst ds) ∧ Dds K H ds dd ∧ dd.length ≤ deep ∧ Pth (eM ms R) (keyM 0 0 1) dd kt ∧ (∀ i, i < dd.length → ∀ k ∈ lyr ms R i, gM least one k = false) ∧ gM least one kt = true) ∨
  ∃ (l : Addr) (ys : List V) (fr : List (Int × Int)), H z = some (.tup [.str "none", .ref l]) ∧ H l = some (.lst ys) ∧ FrZ K H ys fr ∧ (∀ x ∈ fr, AmB x ∧ x.1 ≤ x.2) ∧ fr.Pairwise Lf ∧ (∀ i, i ≤ deep → ∀ k ∈ lyr ms R i, least ≤ (m3 k).1 → stM (m3 k) ∈ fr) ∧ one ∉ fr
theorem FD.keep {K : PySem.W.Frag} {H H' : Hp} {z : Addr} {ms : List Int} {R least : Int} {one : Int × Int} {deep : Nat} (h : FD K H z ms R least one deep) (s : Same H H') : FD K H' z ms R least one deep := by
  rcases h with ⟨l, ds, dd, kt, h1, h2, h3, h4⟩ | ⟨l, ys, fr, h1, h2, h3, h4⟩
  · exact .inl ⟨l, ds, dd, kt, s _ _ h1, s _ _ h2, h3.keep fun b ys => s _ _, h4⟩
  · exact .inr ⟨l, ys, fr, s _ _ h1, s _ _ h2, h3.keep fun b ys => s _ _, h4⟩
theorem out_fd {K : PySem.W.Frag} {T1 T2 cM : Addr} {H : Hp} {Q : VK} {ms : List Int} {R least : Int} {one : Int × Int} {deep most : Nat} (mo : MsOk ms) (dp : DpOk ms deep) (d60 : deep ≤ 60) (r0 : 0 ≤ R) (r1 : R ≤ 10000) (l1 : 1 ≤ least) (hm : 1500 ≤ most) (k : ∀ z H', SmN H H' → Tb H' T1 T2 → FD K H' z ms R least one deep → Q (.ref z) H') :
    OutA K (eM ms R) T1 T2 cM least most H Q L2.E0 (BE.bfs (bM ms R least one deep most) (keyM 0 0 1)) := by
  have po := bfs_po (B := bM ms R least one deep most) (k0 := keyM 0 0 1) (by show 1 ≤ most; omega)
  have nm := never_many (least := least) (one := one) (most := most) mo dp r0 r1 hm
  revert po nm
  cases BE.bfs (bM ms R least one deep most) (keyM 0 0 1) with
  | many => exact fun _ nm => absurd rfl nm
  | found rows =>
    intro po _ z l ds H' s tb hz hl hd
    obtain ⟨rs, sl, d, er, ed, dd', hin, hg, hno⟩ := po
    obtain ⟨dd, e1, e2, e3⟩ := hd rs sl er
    have dd' : d ≤ deep := dd'
    refine k z H' s tb (.inl ⟨l, ds, dd, sl.1, hz, hl, e2, by omega, e3, fun i hi kk hk => hno i (by omega) kk (by rw [lay_lyr]; exact hk), hg⟩)
  | none rows =>
    intro po _
    have rowL : ∀ r ∈ rows, r.2.1 ≤ deep ∧ r.1 ∈ lyr ms R r.2.1 := fun r hr => by
      obtain ⟨h1, h2⟩ := po.1 r hr
      rw [lay_lyr] at h2
      exact ⟨h1, h2⟩
    have mM : ∀ m ∈ msOf least rows, ∃ r ∈ rows, m = m3 r.1 ∧ least ≤ m.1 := fun m hm => by
      obtain ⟨r, hr, rfl⟩ := List.mem_map.mp hm
      obtain ⟨h1, h2⟩ := List.mem_filter.mp hr
      exact ⟨r, h1, rfl, of_decide_eq_true h2⟩
    refine ⟨few_lyr mo dp r0 r1 l1 fun m hm' => ?_, fun z l ys fr H' s tb hz hl fz mem am pw => k z H' s tb (.inr ⟨l, ys, fr, hz, hl, fz, fun x hx => ⟨am x hx, ?_⟩, pw, fun i hi kk hk hl' => ?_, fun ho => ?_⟩)⟩
    · obtain ⟨r, h1, h2, h3⟩ := mM m hm'
      exact ⟨r.2.1, r.1, (rowL r h1).1, (rowL r h1).2, h2, h3⟩
    · obtain ⟨m, hm', rfl⟩ := (mem x).mp hx
      obtain ⟨r, h1, rfl, h3⟩ := mM m hm'
      have hd := (rowL r h1).1
      exact st_le ((lyr_ok mo.b r0 r1 (rowL r h1).2).mx (by omega) r1 l1 h3) (lyr_le mo r0 r1 (rowL r h1).2)
    · obtain ⟨s', hs', e⟩ := po.2.1 i hi kk (by rw [lay_lyr]; exact hk)
      exact (mem _).mpr ⟨m3 s'.1, List.mem_map.mpr ⟨s', List.mem_filter.mpr ⟨hs', by rw [e]; exact decide_eq_true hl'⟩, rfl⟩, by rw [e]⟩
    · obtain ⟨m, hm', e⟩ := (mem one).mp ho
      obtain ⟨r, h1, rfl, h3⟩ := mM m hm'
      have g : gM least one r.1 = false := po.2.2.1 r h1
      rw [gM_ok (lyr_ok mo.b r0 r1 (rowL r h1).2), decide_eq_true h3, decide_eq_true e] at g
      cases g
theorem cut80 (ns : List Int) (h : ns.length ≤ 63) : ∃ cs : List Int, cutV (ns.map V.int) (some 3) (some 83) = cs.map V.int ∧ cs.length ≤ 60 := by
  refine ⟨(ns.drop (HT.sIx (ns.map V.int).length 0 (some 3))).take (HT.sIx (ns.map V.int).length (ns.map V.int).length (some 83) - HT.sIx (ns.map V.int).length 0 (some 3)), ?_, ?_⟩
  · unfold cutV
    rw [List.map_take, List.map_drop]
  · rw [List.length_take, List.length_drop]
    have hl : (ns.map V.int).length = ns.length := List.length_map ..
    have : 3 ≤ HT.sIx (ns.map V.int).length 0 (some 3) ∨ ns.length ≤ 2 := by
      unfold HT.sIx
      simp only [hl]
      split <;> omega
    omega
theorem sum_in {ms : List Int} (mo : MsOk ms) : 1 ≤ ms.sum ∧ ms.sum ≤ 3000 := by
  have l1 := mo.l1
  have l3 := mo.l3
  have b := mo.b
  match ms, l1, l3, b with
  | [x], _, _, b =>
    have := b x (by simp)
    simp
    omega
  | [x, y], _, _, b =>
    have := b x (by simp)
    have := b y (by simp)
    simp
    omega
  | [x, y, z], _, _, b =>
    have := b x (by simp)
    have := b y (by simp)
    have := b z (by simp)
    simp
    omega
theorem last_in {ms : List Int} (mo : MsOk ms) : ∃ z, atI (ms.map V.int) (-1) = some (.int z) ∧ 1 ≤ z ∧ z ≤ 1000 := by
  obtain ⟨ms', z, rfl⟩ : ∃ ms' z, ms = ms' ++ [z] := by
    have := mo.l1
    rcases List.eq_nil_or_concat ms with h | ⟨ms', z, h⟩
    · rw [h] at this; exact absurd this (by decide)
    · exact ⟨ms', z, by rw [h, List.concat_eq_append]⟩
  refine ⟨z, by rw [List.map_append]; exact atI_last _ _, mo.b z (by simp)⟩
theorem deep_in {ms : List Int} (mo : MsOk ms) (sd : Int) : ∃ c : Int, atI [V.int 7, V.int 4, V.int 3] (((ms.length : Nat) : Int) - 1) = some (.int c) ∧ 0 < c ∧ ∃ deep : Nat, sd % c = ((deep : Nat) : Int) ∧ DpOk ms deep ∧ deep ≤ 6 := by
  have l1 := mo.l1
  have l3 := mo.l3
  have c : ms.length = 1 ∨ ms.length = 2 ∨ ms.length = 3 := by omega
  rcases c with c | c | c
  · obtain ⟨d, e, h⟩ := natOf (i := sd) (m := 7) (by decide)
    exact ⟨7, by rw [c]; exact atI_nat (j := 0) rfl, by decide, d, e, ⟨fun _ => by omega, fun z => by omega, fun z => by omega⟩, by omega⟩
  · obtain ⟨d, e, h⟩ := natOf (i := sd) (m := 4) (by decide)
    exact ⟨4, by rw [c]; exact atI_nat (j := 1) rfl, by decide, d, e, ⟨fun z => by omega, fun _ => by omega, fun z => by omega⟩, by omega⟩
  · obtain ⟨d, e, h⟩ := natOf (i := sd) (m := 3) (by decide)
    exact ⟨3, by rw [c]; exact atI_nat (j := 2) rfl, by decide, d, e, ⟨fun z => by omega, fun z => by omega, fun _ => by omega⟩, by omega⟩
end K64

namespace K64
open PySem PySem.Spec PyProof.Rows L2 GM TM BF BE TR
/-! ### the law -/
def spLaw (K : PySem.W.Frag) (T1 T2 : Addr) : Sp := fun vs H Q _ => ∃ (a : Addr) (ns : List Int), vs = [.ref a] ∧ SqL K H a (ns.map V.int) ∧ ns.length ≤ 63 ∧ H T1 = some (.tbl #[]) ∧ H T2 = some (.tbl #[]) ∧ ∀ H', Q (.bl true) H'
abbrev Nla : List Str := ["_law_script", "_law_by_digits", "_law_seed", "_law_measures_here", "_law_deepest", "_law_room", "_law_other", "_law_least", "_law_one", "_law_left", "_law_bottom", "_law_walks_here", "_law_last", "_law_handed", "_law_found", "_law_met", "_law_walk", "_law_k"]
theorem scLaw : FnScope Nla ["_law_script"] (defScope sLaw) := ⟨rfl, rfl, rfl, by decide +kernel, rfl, by decide +kernel, by decide +kernel⟩
theorem ndW1 : (["_law_walk"] : List Str).Nodup := by decide +kernel
theorem call_len_seqK {X : Cx} {K : PySem.W.Frag} (h : X.K = K) : CallR X (.builtin "len") (fun xs H Q => ∃ p ys, xs = [.ref p] ∧ (SqL K H p ys ∨ SqT K H p ys) ∧ Q (.int ys.length) H) := h ▸ call_len_seq
section
variable {P : Program} {w : World} {K : PySem.W.Frag} {mg : Str → Option Value} {base : Heap} {cM T1 T2 : Addr}
theorem ok_law {f : Addr} {fd : FuncData} (F : Fun K "law" "law" sLaw f fd) (T : Txt mg) (nT : T1 ≠ T2) (cC : Cal P w K mg base CX0 9 "_law_cell_at" ["_law_script", "_law_k"] (spCell K)) (cX : Cal P w K mg base CX0 9 "_law_mixed" ["_law_cell", "_law_k"] spMixed) (cMe : Cal P w K mg base CX0 9 "_law_measures" ["_law_cell"] spMeas) (cMb : Cal P w K mg base CX0 9 "_law_measures_by" ["_law_cell", "_law_many"] spMby)
    (cWa : Cal P w K mg base CX0 9 "_law_walks" ["_law_measures_here", "_law_room", "_law_deepest", "_law_cells"] (spWalks K)) (cLo : Cal P w K mg base CX0 9 "_law_low" ["_law_top", "_law_bottom"] spLow) (cS : Cal P w K mg base CX0 9 "_law_strength" ["_law_mixing"] (spStr K)) (cI : Cal P w K mg base CX0 9 "_law_is_it" ["_law_mixing", "_law_least", "_law_one"] (spIsIt K)) (cMa : Cal P w K mg base CX0 9 "_law_made" ["_law_measures_here", "_law_room", "_law_way", "_law_least", "_law_one"] (spMade K)) (cLi : Cal P w K mg base CX0 9 "_law_listed" ["_law_found"] (spListed K))
    (cA : Cal P w K mg base CX0 9 "_law_asked" ["_law_measures_here", "_law_room", "_law_one", "_law_least", "_law_deepest", "_law_short"] (spLask K T1 T2 cM)) : FnOk P w K mg base CX0 10 f fd ["_law_script"] (spLaw K T1 T2) := by
  refine F.ok scLaw (fun vs H Q E h => ?_) (fun cdv A oo s H vs Q E hr h => ?_)
  · obtain ⟨_, _, rfl, _⟩ := h
    rfl
  · obtain ⟨a, ns, rfl, hS, n63, tb1, tb2, k⟩ := h
    have tb : Tb H T1 T2 := ⟨.inl tb1, .inl tb2, nT⟩
    refine ⟨_, (pss_cons (ps_set (i := 1) scLaw.nd rfl (Or.inl rfl) (pe_cmpR op_eq (pe_op op_mod (pe_cal cC hr rfl pass0 (pa_cons (pv 0) (pa_cons pe_int pa_nil))) pe_int) pe_int (nomark _)))
      (pss_cons (ps_set (i := 2) scLaw.nd rfl (Or.inl rfl) (pe_cal cX hr rfl pass0 (pa_cons (pe_cal cC hr rfl pass0 (pa_cons (pv 0) (pa_cons pe_int pa_nil))) (pa_cons pe_int pa_nil))))
      (pss_cons (ps_set (i := 3) scLaw.nd rfl (Or.inl rfl) (pe_cal cMe hr rfl pass0 (pa_cons (pv 2) pa_nil)))
      (pss_cons (ps_if (pt_val (pv 1))
        (pss_one (ps_set (i := 3) scLaw.nd rfl (Or.inl rfl) (pe_cal cMb hr rfl pass0 (pa_cons (pe_cal cC hr rfl pass0 (pa_cons (pv 0) (pa_cons pe_int pa_nil))) (pa_cons pe_int pa_nil)))))
        pss_nil)
      (pss_cons (ps_set (i := 4) scLaw.nd rfl (Or.inl rfl) (pe_op op_mod (pe_op op_fdivB (pv 2) pe_int) (pe_ix ix_list (pe_lst (pa_cons pe_int (pa_cons pe_int (pa_cons pe_int pa_nil)))) (pe_op op_sub (pe_callB call_len_seq rfl T.len PySem.boot_len (pa_cons (pv 3) pa_nil)) pe_int) (fun _ _ => rfl))))
      (pss_cons (ps_set (i := 5) scLaw.nd rfl (Or.inl rfl) (pe_ix ix_list (pe_lst (pa_cons (pe_callB (call_sum rfl) rfl T.sum' boot_sum (pa_cons (pv 3) pa_nil)) (pa_cons (pe_op op_add (pe_ix ix_list (pv 3) (pe_un un_neg pe_int) (fun _ _ => rfl)) (pe_op op_mod (pe_op op_fdivB (pv 2) pe_int) pe_int)) pa_nil))) (pe_op op_mod (pe_op op_fdivB (pv 2) pe_int) pe_int) (fun _ _ => rfl)))
      (pss_cons (ps_set (i := 6) scLaw.nd rfl (Or.inl rfl) (pe_cal cX hr rfl pass0 (pa_cons (pe_cal cC hr rfl pass0 (pa_cons (pv 0) (pa_cons pe_int pa_nil))) (pa_cons pe_int pa_nil))))
      (pss_cons (ps_set (i := 7) scLaw.nd rfl (Or.inl rfl) (pe_op op_add pe_int (pe_op op_mod (pe_op op_mod (pv 6) pe_int) (pv 5))))
      (pss_cons (ps_set (i := 8) scLaw.nd rfl (Or.inl rfl) (pe_cal cLo hr rfl pass0 (pa_cons (pe_op op_mod (pe_op op_mod (pe_op op_fdivB (pv 6) pe_int) pe_int) (pe_op op_add pe_int (pe_op op_mod (pe_op op_fdivB (pv 6) pe_int) pe_int))) (pa_cons (pe_op op_add pe_int (pe_op op_mod (pe_op op_fdivB (pv 6) pe_int) pe_int)) pa_nil))))
      (pss_cons (ps_if (pt_val (pv 1))
        (pss_cons (ps_set (i := 9) scLaw.nd rfl (Or.inl rfl) (pe_callB call_abs rfl T.abs' bt_abs (pa_cons (pe_cal cC hr rfl pass0 (pa_cons (pv 0) (pa_cons pe_int pa_nil))) pa_nil)))
        (pss_cons (ps_set (i := 5) scLaw.nd rfl (Or.inl rfl) (pe_op op_add pe_int (pe_op op_mod (pv 9) pe_int)))
        (pss_cons (ps_set (i := 7) scLaw.nd rfl (Or.inl rfl) (pe_op op_add pe_int (pe_op op_mod (pe_op op_fdivB (pv 9) (pe_op op_powB pe_int pe_int)) (pv 5))))
        (pss_cons (ps_set (i := 10) scLaw.nd rfl (Or.inl rfl) (pe_op op_add pe_int (pe_op op_mod (pe_op op_fdivB (pv 9) (pe_op op_powB pe_int pe_int)) (pe_op op_powB pe_int pe_int))))
        (pss_one (ps_set (i := 8) scLaw.nd rfl (Or.inl rfl) (pe_cal cLo hr rfl pass0 (pa_cons (pe_op op_mod (pe_op op_fdivB (pv 9) (pe_op op_powB pe_int pe_int)) (pe_op op_add (pv 10) pe_int)) (pa_cons (pv 10) pa_nil)))))))))
        pss_nil)
      (pss_cons (ps_set (i := 11) scLaw.nd rfl (Or.inl rfl) (pe_cal cWa hr rfl pass0 (pa_cons (pv 3) (pa_cons (pv 5) (pa_cons (pv 4) (pa_cons (pe_slice sl_list (pv 0) (po_some pe_int) (po_some pe_int)) pa_nil))))))
      (pss_cons (ps_set (i := 12) scLaw.nd rfl (Or.inl rfl) (pe_ix ix_list (pv 11) (pe_op op_mod (pe_op op_fdivB (pv 6) pe_int) (pe_callB call_len_seq rfl T.len PySem.boot_len (pa_cons (pv 11) pa_nil))) (fun _ _ => rfl)))
      (pss_cons (ps_if (PW.pt (pw_and (pt_cmpR op_gt (pe_op op_mod (pe_op op_fdivB (pv 6) pe_int) pe_int) pe_int (nomark _)) (pw_and (pt_cmpR (op_neE hr.units) (pv 12) (pe_lst pa_nil) (nomark _)) (pw_and1 (pt_cmpR op_ge (pe_ix ix_tup (pe_ix ix_list (pv 12) (pe_un un_neg pe_int) (fun _ _ => rfl)) pe_int (fun _ _ => rfl)) (pv 7) (nomark _))))))
        (pss_one (ps_set (i := 8) scLaw.nd rfl (Or.inl rfl) (pe_cal cS hr rfl pass0 (pa_cons (pe_ix ix_list (pv 12) (pe_un un_neg pe_int) (fun _ _ => rfl)) pa_nil))))
        pss_nil)
      (pss_cons (ps_set (i := 13) scLaw.nd rfl (Or.inl rfl) (pe_callTy call_list_of rfl T.list' bt_list (pa_cons (pv 3) pa_nil)))
      (pss_cons (ps_set (i := 14) scLaw.nd rfl (Or.inl rfl) (pe_cal cA hr rfl pass0 (pa_cons (pv 13) (pa_cons (pv 5) (pa_cons (pv 8) (pa_cons (pv 7) (pa_cons (pv 4) (pa_cons (pe_cmpR op_eq (pe_op op_mod (pe_op op_fdivB (pv 6) pe_int) pe_int) pe_int (nomark _)) pa_nil))))))))
      (pss_cons (ps_if (PW.pt (pw_or (pt_not (pt_val (pe_callB call_isi rfl T.isi boot_isinstance (pa_cons (pv 14) (pa_cons (pe_bltn (v := .ty "tuple") rfl T.tup' bt_tuple rfl) pa_nil))))) (pw_or (pt_cmpR op_ne (pe_callB call_len_seq rfl T.len PySem.boot_len (pa_cons (pv 14) pa_nil)) pe_int (nomark _)) (pw_or1 (pt_cmpR (op_neLs hr.units) (pv 13) (pv 3) (nomark _))))))
        (pss_one (ps_ret pe_bl))
        pss_nil)
      (pss_cons (ps_comp (iy := 15) (N' := ["_law_walk"]) (cl := []) (fun _ => [none]) rfl rfl (by decide +kernel) (by decide +kernel) (clOk_plain (by decide +kernel)) (fun _ _ => blkN_none) (pi_list (pv 11)) (fun _ _ _ _ _ => pg_name (i := 0) ndW1 rfl (Or.inl rfl)) (fun _ _ _ _ _ => pifs_nil) (fun _ _ _ _ _ => pe_callB (call_len_seqK (K := K) rfl) rfl T.len PySem.boot_len (pa_cons (pv 0) pa_nil)) scLaw.nd rfl (Or.inl rfl) (Or.inr rfl) rfl)
      (pss_cons (ps_for PassesOwn.never rfl (pi_list (pv 11)) (pg_name (i := 16) scLaw.nd rfl (Or.inl rfl))
        (pss_one (ps_for PassesOwn.never rfl (pi_range1 rfl T.range (pa_cons (pe_callB call_len_seq rfl T.len PySem.boot_len (pa_cons (pv 16) pa_nil)) pa_nil)) (pg_name (i := 17) scLaw.nd rfl (Or.inl rfl))
          (pss_cons (ps_if (PW.pt (pw_and (pt_cmpR op_eq (pit 14 0) pe_str (nomark _)) (pw_and (pt_cmpR op_lt (pe_op op_add (pv 17) pe_int) (pe_callB call_len_seq rfl T.len PySem.boot_len (pa_cons (pit 14 1) pa_nil)) (nomark _)) (pw_and1 (pt_val (pe_cal cI hr rfl pass0 (pa_cons (pe_ix ix_list (pv 16) (pv 17) (fun _ _ => rfl)) (pa_cons (pv 7) (pa_cons (pv 8) pa_nil)))))))))
            (pss_one (ps_ret pe_bl))
            pss_nil)
          (pss_one (ps_if (PW.pt (pw_and (pt_cmpR op_eq (pit 14 0) pe_str (nomark _)) (pw_and (pt_cmpR op_ge (pe_ix ix_tup (pe_ix ix_list (pv 16) (pv 17) (fun _ _ => rfl)) pe_int (fun _ _ => rfl)) (pv 7) (nomark _)) (pw_and1 (pt_cmpR (op_notInP hr.units) (pe_cal cS hr rfl pass0 (pa_cons (pe_ix ix_list (pv 16) (pv 17) (fun _ _ => rfl)) pa_nil)) (pit 14 1) rfl)))))
            (pss_one (ps_ret pe_bl))
            pss_nil))))))
      (pss_cons (ps_if (pt_cmpR op_eq (pit 14 0) pe_str (nomark _))
        (pss_cons (ps_if (PW.pt (pw_or (pt_not (pt_val (pe_callB call_isi rfl T.isi boot_isinstance (pa_cons (pit 14 1) (pa_cons (pe_bltn (v := .ty "list") rfl T.list' bt_list rfl) pa_nil))))) (pw_or1 (pt_cmpR op_gt (pe_callB call_len_seq rfl T.len PySem.boot_len (pa_cons (pit 14 1) pa_nil)) (pv 4) (nomark _)))))
          (pss_one (ps_ret pe_bl))
          pss_nil)
        (pss_one (ps_ret (pe_cal cMa hr rfl pass0 (pa_cons (pv 3) (pa_cons (pv 5) (pa_cons (pit 14 1) (pa_cons (pv 7) (pa_cons (pv 8) pa_nil)))))))))
        pss_nil)
      (pss_one (ps_ret (pe_and (pe_cmpR op_eq (pit 14 0) pe_str (nomark _)) (pe_and (pe_cal cLi hr rfl pass0 (pa_cons (pit 14 1) pa_nil)) (pe_and (pe_cmpR (op_notInP hr.units) (pv 8) (pit 14 1) rfl) (pe_one (pe_cmpR op_le (pe_callB (call_maxL rfl) rfl T.max' boot_max (pa_cons (pv 15) pa_nil)) (pv 4) (nomark _))))))))))))))))))))))))))), ?_⟩
    have ll : (ns.map V.int).length = ns.length := List.length_map ..
    refine ⟨_, rfl, a, ns, 0, rfl, hS, by decide, fun c0 => ⟨_, _, rfl, rfl, (by show (0 : Int) < 2; decide), rfl, ?_⟩⟩
    dsimp only [gName]
    generalize decide (V.int (c0 % 2) = V.int 0) = by'
    refine ⟨_, rfl, a, ns, 0, rfl, hS, by decide, fun c1 => ⟨c1, 0, rfl, by decide, by decide, fun sd sd0 sd1 => ?_⟩⟩
    refine ⟨_, rfl, sd, rfl, fun M0 ms0 H1 s1 hM0 mo0 => ?_⟩
    dsimp only [gName]
    refine seq_nx (fun σ' H' => ∃ (M : Addr) (ms : List Int), σ' = [some (.ref a), some (.bl by'), some (.int sd), some (.ref M), none, none, none, none, none, none, none, none, none, none, none, none, none, none] ∧ Same H H' ∧ H' M = some (.lst (ms.map V.int)) ∧ MsOk ms) ?_ (fun N hN => ?_)
    rotate_left
    · refine ⟨_, rfl, _, rfl, ite2 (fun _ => ?_) (fun _ => hN _ _ ⟨M0, ms0, rfl, s1, hM0, mo0⟩)⟩
      exact ⟨_, rfl, a, ns, 0, rfl, s1.seq hS, by decide, fun c3 => ⟨c3, rfl, fun M ms H2 s2 hM mo => hN _ _ ⟨M, ms, rfl, s1.trans s2, hM, mo⟩⟩⟩
    clear hM0 mo0 s1
    rintro σ' H2 ⟨M, ms, rfl, s2, hM, mo⟩
    obtain ⟨cd, hcd, cd0, deep, edp, dp, d6⟩ := deep_in mo (sd / 36)
    refine ⟨_, rfl, _, _, rfl, rfl, ⟨by decide, b9⟩, (by show 3 ≤ sizeLine; decide), fun t1 nt1 => ?_⟩
    have s3 := Same.upd (o := .lst [.int 7, .int 4, .int 3]) nt1
    have ht1 := upd_same (H := H2) (a := t1) (o := .lst [.int 7, .int 4, .int 3])
    generalize upd H2 t1 (.lst [.int 7, .int 4, .int 3]) = H3 at s3 ht1 ⊢
    have hM3 := s3 _ _ hM
    have lm : (ms.map V.int).length = ms.length := List.length_map ..
    refine ⟨_, rfl, M, _, rfl, .inl (SqL.of hM3), _, _, rfl, rfl, t1, _, _, .int cd, rfl, rfl, SqL.of ht1, (by rw [lm]; exact hcd), _, _, rfl, rfl, cd0, ?_⟩
    dsimp only [gName]
    rw [edp]
    obtain ⟨lz, hlz, lz1, lz2⟩ := last_in mo
    obtain ⟨sm1, sm2⟩ := sum_in mo
    obtain ⟨v0, v1⟩ := emod_in (sd / 216) (show (0 : Int) < 20 by decide)
    refine ⟨_, rfl, M, ms, rfl, SqL.of hM3, _, rfl, _, rfl, M, _, _, .int lz, rfl, rfl, SqL.of hM3, hlz, _, rfl, _, _, rfl, rfl, ⟨by decide, b9⟩, _, _, rfl, rfl, (by show (0 : Int) < 20; decide), _, _, rfl, rfl, (by show 2 ≤ sizeLine; decide), fun t2 nt2 => ?_⟩
    have s4 := Same.upd (o := .lst [.int ms.sum, .int (lz + sd / 216 % 20)]) nt2
    have ht2 := upd_same (H := H3) (a := t2) (o := .lst [.int ms.sum, .int (lz + sd / 216 % 20)])
    generalize upd H3 t2 (.lst [.int ms.sum, .int (lz + sd / 216 % 20)]) = H4 at s4 ht2 ⊢
    obtain ⟨R0, hR0, R01, R02⟩ : ∃ R : Int, atI [V.int ms.sum, V.int (lz + sd / 216 % 20)] (sd / 4320 % 2) = some (.int R) ∧ 1 ≤ R ∧ R ≤ 10000 := by
      rcases Int.emod_two_eq (sd / 4320) with e | e
      · exact ⟨_, by rw [e]; exact atI_nat (j := 0) rfl, by omega, by omega⟩
      · exact ⟨_, by rw [e]; exact atI_nat (j := 1) rfl, by omega, by omega⟩
    refine ⟨_, rfl, _, _, rfl, rfl, ⟨by decide, b9⟩, _, _, rfl, rfl, (by show (0 : Int) < 2; decide), t2, _, _, .int R0, rfl, rfl, SqL.of ht2, hR0, ?_⟩
    have s04 := s2.trans (s3.trans s4)
    have hM4 := s4 _ _ hM3
    clear ht1 ht2 s3 s4 hM hM3 s2
    refine ⟨_, rfl, a, ns, 1, rfl, s04.seq hS, by decide, fun c4 => ⟨c4, 1, rfl, by decide, by decide, fun ot ot0 ot1 => ?_⟩⟩
    obtain ⟨l0, l1⟩ := emod_in (ot % 12) (show (0 : Int) < R0 by omega)
    refine ⟨_, rfl, _, _, rfl, rfl, (by show (0 : Int) < 12; decide), _, rfl, _, _, rfl, rfl, (by show (0 : Int) < R0; omega), _, _, rfl, rfl, ?_⟩
    obtain ⟨b0, b1⟩ := emod_in (ot / 144) (show (0 : Int) < 11 by decide)
    obtain ⟨t0, t1'⟩ := emod_in (ot / 12 % 12) (show (0 : Int) < 1 + ot / 144 % 11 by omega)
    refine ⟨_, rfl, _, _, rfl, rfl, ⟨by decide, b9⟩, _, _, rfl, rfl, (by show (0 : Int) < 12; decide), _, rfl, _, _, rfl, rfl, ⟨by decide, b9⟩, _, _, rfl, rfl, (by show (0 : Int) < 11; decide), _, _, rfl, rfl, _, _, rfl, rfl, (by show (0 : Int) < 1 + ot / 144 % 11; omega), _, rfl, _, _, rfl, rfl, ⟨by decide, b9⟩, _, _, rfl, rfl, (by show (0 : Int) < 11; decide), _, _, rfl, rfl, _, _, rfl, t0, by omega, b9 (by omega) (by omega), fun p1 H5 s5 hp1 => ?_⟩
    dsimp only [gName]
    refine seq_nx (fun σ' H' => ∃ (R least : Int) (one : Int × Int) (b : Addr) (v9 v10 : Option V), σ' = [some (.ref a), some (.bl by'), some (.int sd), some (.ref M), some (.int ((deep : Nat) : Int)), some (.int R), some (.int ot), some (.int least), some (.ref b), v9, v10, none, none, none, none, none, none, none] ∧ Same H4 H' ∧ 1 ≤ R ∧ R ≤ 10000 ∧ 1 ≤ least ∧ SqZ K H' b [.int one.1, .int one.2]) ?_ (fun N hN => ?_)
    rotate_left
    · refine ⟨_, rfl, _, rfl, ite2 (fun _ => ?_) (fun _ => hN _ _ ⟨_, _, (_, _), p1, _, _, rfl, s5, R01, R02, by omega, SqZ.of hp1⟩)⟩
      refine ⟨_, rfl, a, ns, 1, rfl, (s04.trans s5).seq hS, by decide, fun c5 => ⟨c5, rfl, ?_⟩⟩
      dsimp only [gName]
      have a0 : 0 ≤ (if c5 < 0 then -c5 else c5) := by split <;> omega
      generalize (if c5 < 0 then -c5 else c5) = le at a0 ⊢
      obtain ⟨l2, l3⟩ := emod_in le (show (0 : Int) < 10000 by decide)
      refine ⟨_, rfl, _, _, rfl, rfl, (by show (0 : Int) < 10000; decide), _, _, rfl, rfl, ?_⟩
      dsimp only [gName]
      generalize le % 10000 = r4 at l2 l3 ⊢
      obtain ⟨l4, l5⟩ := emod_in (le / (10 : Int) ^ Int.toNat 4) (show (0 : Int) < 1 + r4 by omega)
      refine ⟨_, rfl, _, _, rfl, rfl, ⟨by decide, by decide, bt_lt 1000 (c := 11) (by decide) (by decide)⟩, _, _, rfl, rfl, ⟨by decide, b9⟩, _, rfl, _, _, rfl, rfl, (by show (0 : Int) < 1 + r4; omega), _, _, rfl, rfl, ?_⟩
      refine ⟨_, rfl, _, _, rfl, rfl, ⟨by decide, by decide, bt_lt 1000 (c := 11) (by decide) (by decide)⟩, _, _, rfl, rfl, ⟨by decide, b9⟩, _, _, rfl, rfl, ⟨by decide, by decide, bt_lt 1000 (c := 11) (by decide) (by decide)⟩, _, _, rfl, rfl, (by show (0 : Int) < 10 ^ 6; decide), _, _, rfl, rfl, ?_⟩
      dsimp only [gName]
      have p6 : ((10 : Int) ^ Int.toNat 6) = 1000000 := rfl
      rw [p6]
      obtain ⟨u0, u1⟩ := emod_in (le / (10 : Int) ^ Int.toNat 8) (show (0 : Int) < 1000000 by decide)
      generalize le / (10 : Int) ^ Int.toNat 8 % 1000000 = bo at u0 u1 ⊢
      obtain ⟨w0, w1⟩ := emod_in (le / (10 : Int) ^ Int.toNat 14) (show (0 : Int) < 1 + bo + 1 by omega)
      refine ⟨_, rfl, _, _, rfl, rfl, ⟨by decide, by decide, bt_lt 1000 (c := 11) (by decide) (by decide)⟩, _, _, rfl, rfl, ⟨by decide, b9⟩, _, rfl, _, _, rfl, rfl, _, _, rfl, rfl, (by show (0 : Int) < 1 + bo + 1; omega), _, rfl, _, _, rfl, w0, by omega, b9 (by omega) (by omega), fun p2 H7 s7 hp2 => ?_⟩
      exact hN _ _ ⟨_, _, (_, _), p2, _, _, rfl, s5.trans s7, by omega, by omega, by omega, SqZ.of hp2⟩
    clear hp1 s5 t0 t1' b0 b1 l0 l1 R01 R02 hR0
    rintro σ' H6 ⟨R, least, one, b, v9, v10, rfl, s6, R1, R2, l1, hb⟩
    obtain ⟨cs, ecs, csl⟩ := cut80 ns n63
    have s06 := s04.trans s6
    have hM6 := s6 _ _ hM4
    refine ⟨_, rfl, _, rfl, _, rfl, _, rfl, _, rfl, _, rfl, a, _, rfl, s06.seq hS, fun t3 nt3 => ?_⟩
    rw [ecs]
    have s7 := Same.upd (o := .lst (cs.map V.int)) nt3
    have ht3 := upd_same (H := H6) (a := t3) (o := .lst (cs.map V.int))
    generalize upd H6 t3 (.lst (cs.map V.int)) = H7 at s7 ht3 ⊢
    refine ⟨M, t3, ms, cs, R, deep, rfl, SqL.of (s7 _ _ hM6), mo, by omega, R2, d6, SqL.of ht3, csl, fun WL ws H8 s8 hWL w1 w64 wks => ?_⟩
    have s68 := s7.trans s8
    have hb8 := LK.sz_keep hb fun b ys => s68 _ _
    have hM8 := s68 _ _ hM6
    have s08 := s06.trans s68
    clear s7 ht3 s8 hb hM6 s6 s04 hM4
    have wl : (ws.map V.ref).length = ws.length := List.length_map ..
    obtain ⟨j, ej, hj⟩ := natOf (i := ot / 1584) (m := (((ws.map V.ref).length : Nat) : Int)) (by rw [wl]; omega)
    obtain ⟨lw, hlw⟩ : ∃ lw, ws[j]? = some lw := ⟨_, List.getElem?_eq_getElem (by omega)⟩
    obtain ⟨lx, hlx, lxl, lxn⟩ := wks lw (List.mem_of_getElem? hlw)
    refine ⟨_, rfl, _, rfl, _, _, rfl, rfl, ⟨by decide, b9⟩, _, rfl, WL, _, rfl, .inl (SqL.of hWL), _, _, rfl, rfl, (by show (0 : Int) < (((ws.map V.ref).length : Nat) : Int); omega), WL, _, _, .ref lw, rfl, rfl, SqL.of hWL, (by rw [ej]; exact atI_nat (by rw [List.getElem?_map, hlw]; rfl)), ?_⟩
    dsimp only [gName]
    refine seq_nx (fun σ' H' => ∃ (one : Int × Int) (b : Addr), σ' = [some (.ref a), some (.bl by'), some (.int sd), some (.ref M), some (.int ((deep : Nat) : Int)), some (.int R), some (.int ot), some (.int least), some (.ref b), v9, v10, some (.ref WL), some (.ref lw), none, none, none, none, none] ∧ Same H8 H' ∧ SqZ K H' b [.int one.1, .int one.2]) ?_ (fun N hN => ?_)
    rotate_left
    · refine ⟨_, rfl, _, _, rfl, rfl, ⟨by decide, b9⟩, _, _, rfl, rfl, (by show (0 : Int) < 3; decide), _, _, rfl, rfl, _, rfl, ite2 (fun _ => ?_) (fun _ => iteF (hN _ _ ⟨one, b, rfl, Same.refl _, hb8⟩))⟩
      refine ⟨_, rfl, (by show 0 ≤ sizeLine; decide), fun e0 ne0 => ?_⟩
      have s9 := Same.upd (o := .lst []) ne0
      have he0 := upd_same (H := H8) (a := e0) (o := .lst [])
      generalize upd H8 e0 (.lst []) = H9 at s9 he0 ⊢
      have hlx9 := s9 _ _ hlx
      refine ⟨lw, e0, lx, rfl, rfl, SqL.of hlx9, SqL.of he0, _, rfl, ite2 (fun he => ?_) (fun _ => iteF (hN _ _ ⟨one, b, rfl, s9, LK.sz_keep hb8 fun b ys => s9 _ _⟩))⟩
      have lp : 0 < lx.length := by
        cases hx : lx with
        | nil => rw [hx] at he; cases he
        | cons _ _ => rw [List.length_cons]; omega
      obtain ⟨v, hv⟩ : ∃ v, lx[lx.length - 1]? = some v := ⟨_, List.getElem?_eq_getElem (by omega)⟩
      have hlast : atI lx (-1) = some v := by
        have e : lx = lx.take (lx.length - 1) ++ [v] := by
          have e1 : lx.take (lx.length - 1 + 1) = lx := List.take_of_length_le (by omega)
          rw [List.take_add_one, hv] at e1
          exact e1.symm
        rw [e]
        exact atI_last _ _
      obtain ⟨ky, hky, nv⟩ := lxn _ v hv
      have ok := lyr_ok mo.b (by omega) R2 hky
      have nv9 := nv.keep fun b ys => s9 _ _
      rw [ok.key] at nv9
      obtain ⟨g, q, rfl, hg, hq⟩ := nv_at nv9
      refine ⟨_, rfl, _, rfl, lw, _, _, .ref g, rfl, rfl, SqL.of hlx9, hlast, g, _, 0, .int (m3 ky).1, rfl, rfl, hg.sq, rfl, _, rfl, _, _, rfl, rfl, _, rfl, ite2 (fun hf => ?_) (fun _ => hN _ _ ⟨one, b, rfl, s9, LK.sz_keep hb8 fun b ys => s9 _ _⟩)⟩
      have mx := ok.mx (by omega) R2 l1 (of_decide_eq_true hf)
      exact ⟨_, rfl, _, rfl, lw, _, _, .ref g, rfl, rfl, SqL.of hlx9, hlast, g, q, _, _, _, rfl, hg, hq, mx.am, mx.bt, mx.bb, mx.f1, mx.f2, fun p3 H10 s10 hp3 => hN _ _ ⟨(_, _), p3, rfl, s9.trans s10, hp3⟩⟩
    clear hb8
    rintro σ' H9 ⟨one, b, rfl, s9, hb⟩
    have hM9 := s9 _ _ hM8
    have hWL9 := s9 _ _ hWL
    have wks9 : ∀ l ∈ ws, Wk K H9 l ms R deep := fun l hl => (wks l hl).keep (fun xs => s9 _ _) fun b ys => s9 _ _
    have tb9 := tb.keep (s08.trans s9)
    clear s9 hM8 hWL wks hlx lxn
    refine ⟨_, rfl, M, _, rfl, .inl (SqL.of hM9), fun hd nhd => ?_⟩
    have s10 := Same.upd (o := .lst (ms.map V.int)) nhd
    have hhd := upd_same (H := H9) (a := hd) (o := .lst (ms.map V.int))
    generalize upd H9 hd (.lst (ms.map V.int)) = H10 at s10 hhd ⊢
    have hb10 := LK.sz_keep hb fun b ys => s10 _ _
    refine ⟨_, rfl, _, rfl, _, rfl, _, rfl, _, rfl, _, rfl, _, _, rfl, rfl, ⟨by decide, b9⟩, _, _, rfl, rfl, (by show (0 : Int) < 2; decide), rfl, ?_⟩
    refine ⟨hd, b, ms, R, least, one, deep, _, rfl, tb9.keep s10, SqL.of hhd, mo, by omega, R2, hb10, l1, by omega, fun most m1 m2 => out_fd mo dp (by omega) (by omega) R2 l1 m1 fun z H11 s11 tb11 fd => ?_⟩
    have hM11 := s11.ls (s10 _ _ hM9)
    have hhd11 := s11.ls hhd
    have hWL11 := s11.ls (s10 _ _ hWL9)
    have hb11 := LK.sz_keep hb10 s11.tk
    have wks11 : ∀ l ∈ ws, Wk K H11 l ms R deep := fun l hl => (wks9 l hl).keep (fun xs e => s11.ls (s10 _ _ e)) fun b ys e => s11.tk _ _ (s10 _ _ e)
    clear s10 hhd hb10 tb9 hM9 hWL9 wks9 hb s11
    obtain ⟨zx, zl, hz⟩ : ∃ (x : Str) (l : Addr), H11 z = some (.tup [.str x, .ref l]) := by
      rcases fd with ⟨l, _, _, _, h, _⟩ | ⟨l, _, _, h, _⟩
      · exact ⟨_, l, h⟩
      · exact ⟨_, l, h⟩
    refine ⟨_, rfl, _, "tuple", true, rfl, .tup_tuple (SqT.of hz), _, rfl, iteF ⟨_, rfl, z, _, rfl, .inr (SqT.of hz), rfl, _, rfl, iteF ⟨_, rfl, _, rfl, hd, M, _, rfl, rfl, SqL.of hhd11, SqL.of hM11, (fun v hv => by obtain ⟨m, _, rfl⟩ := List.mem_map.mp hv; exact .inl rfl), _, rfl, iteF ?_⟩⟩⟩
    -- how long the walks are
    refine ⟨_, rfl, WL, rfl, ⟨_, SqL.of hWL11⟩, fun D nD => ?_⟩
    refine comp_pair (Ys.list (SqL.of hWL11)) ws wl (fun _ => true) (fun _ y _ => ∃ n : Int, y = .int n ∧ n ≤ ((deep : Nat) : Int)) (fun _ _ _ _ h _ => h) nD (by omega) (fun i v l H12 R1' R2' hv hl12 sm q1 _ => ?_) (fun mys H12 s12 hD12 pr => ?_)
    · rw [List.getElem?_map, hl12] at hv
      cases hv
      obtain ⟨xs, h1, h2, _⟩ := wks11 l (List.mem_of_getElem? hl12)
      exact ⟨(Keep.refl _).set rfl, noif ⟨_, rfl, l, xs, rfl, .inl (SqL.of (sm _ _ h1)), q1 rfl _ _ (Same.refl _) ⟨_, rfl, by omega⟩⟩⟩
    obtain ⟨mi, emi, mil, mib⟩ : ∃ mi : List Int, mys = mi.map V.int ∧ mi.length = ws.length ∧ ∀ n ∈ mi, n ≤ ((deep : Nat) : Int) := by
      have e1 : ws.filter (fun _ => true) = ws := List.filter_eq_self.mpr fun _ _ => rfl
      rw [e1] at pr
      clear e1 nD hD12 hlw hj ej wl w1 w64 hWL11 wks11
      induction pr with
      | nil => exact ⟨[], rfl, rfl, fun n hn => nomatch hn⟩
      | cons h _ ih =>
        obtain ⟨n, rfl, hn⟩ := h
        obtain ⟨mi, rfl, h2, h3⟩ := ih
        refine ⟨n :: mi, rfl, by rw [List.length_cons, List.length_cons, h2], fun m hm => ?_⟩
        rcases List.mem_cons.mp hm with rfl | hm
        · exact hn
        · exact h3 m hm
    subst emi
    have hM12 := s12 _ _ hM11
    have hWL12 := s12 _ _ hWL11
    have hb12 := LK.sz_keep hb11 fun b ys => s12 _ _
    have wks12 : ∀ l ∈ ws, Wk K H12 l ms R deep := fun l hl => (wks11 l hl).keep (fun xs => s12 _ _) fun b ys => s12 _ _
    have fd12 := fd.keep s12
    clear fd hz s12 hM11 hWL11 hb11 wks11 hhd11 pr
    refine ⟨_, rfl, WL, rfl, ⟨_, SqL.of hWL12⟩, ?_⟩
    refine for_list (xs := ws.map V.ref) (fun i σ H' => ∃ v16 v17 : Option V, σ = [some (.ref a), some (.bl by'), some (.int sd), some (.ref M), some (.int ((deep : Nat) : Int)), some (.int R), some (.int ot), some (.int least), some (.ref b), v9, v10, some (.ref WL), some (.ref lw), some (.ref hd), some (.ref z), some (.ref D), v16, v17] ∧ Same H12 H') ⟨_, _, rfl, Same.refl _⟩ ?_ ?_ ?_
    · rintro i σ H' _ ⟨_, _, _, s13⟩
      exact SqL.of (s13 _ _ hWL12)
    rotate_left
    · rintro σ H13 ⟨v16, v17, rfl, s13⟩
      have fd13 := fd12.keep s13
      have hb13 := LK.sz_keep hb12 fun b ys => s13 _ _
      rcases fd13 with ⟨l2, ds, dd, kt, hz, hl2, dds, ddl, pth, no, yes⟩ | ⟨l2, ys, fr, hz, hl2, fz, am, pw, has, out⟩
      · have dl := paired_len dds
        refine ⟨z, _, _, rfl, SqT.of hz, rfl, rfl, _, rfl, iteT ?_⟩
        refine ⟨z, _, _, rfl, SqT.of hz, rfl, _, "list", true, rfl, .lst_list (SqL.of hl2), _, rfl, iteF ⟨z, _, _, rfl, SqT.of hz, rfl, l2, ds, rfl, .inl (SqL.of hl2), _, rfl, _, _, rfl, rfl, _, rfl, ?_⟩⟩
        rw [decide_eq_false (show ¬ ((ds.length : Nat) : Int) > ((deep : Nat) : Int) by omega)]
        exact iteF ⟨_, rfl, _, rfl, z, _, _, rfl, SqT.of hz, rfl, _, rfl, _, rfl, M, l2, b, ms, R, least, one, ds, dd, kt, rfl, SqL.of (s13 _ _ hM12), mo, by omega, R2, hl2, dds, by omega, pth, l1, hb13, no, yes, k⟩
      · refine ⟨z, _, _, rfl, SqT.of hz, rfl, rfl, _, rfl, iteF ?_⟩
        refine ⟨z, _, _, rfl, SqT.of hz, rfl, rfl, _, rfl, iteT ⟨z, _, _, rfl, SqT.of hz, rfl, l2, ys, fr, rfl, SqL.of hl2, fz, am, pw, _, rfl, iteT ⟨_, rfl, z, _, _, rfl, SqT.of hz, rfl, b, l2, one, ys, fr, rfl, rfl, hb13, SqL.of hl2, fz, _, rfl, ?_⟩⟩⟩
        rw [decide_eq_false out]
        refine iteT ⟨_, rfl, D, mi, rfl, SqL.of (s13 _ _ hD12), by omega, fun m hm _ => ⟨_, rfl, _, _, rfl, rfl, ?_⟩⟩
        show Q (.bl (decide (m ≤ ((deep : Nat) : Int)))) _
        rw [decide_eq_true (mib m hm)]
        exact k _
    rintro i x σ H13 hx ⟨v16, v17, rfl, s13⟩
    rw [List.getElem?_map] at hx
    obtain ⟨l, hl, rfl⟩ := Option.map_eq_some_iff.mp hx
    obtain ⟨xs, hxs, xsl, xsn⟩ := wks12 l (List.mem_of_getElem? hl)
    refine ⟨_, rfl, l, xs, rfl, .inl (SqL.of (s13 _ _ hxs)), _, rfl, by omega, by omega, ?_⟩
    rw [Int.toNat_natCast]
    refine for_range (fun j σ H' => ∃ v17 : Option V, σ = [some (.ref a), some (.bl by'), some (.int sd), some (.ref M), some (.int ((deep : Nat) : Int)), some (.int R), some (.int ot), some (.int least), some (.ref b), v9, v10, some (.ref WL), some (.ref lw), some (.ref hd), some (.ref z), some (.ref D), some (.ref l), v17] ∧ Same H12 H') ⟨_, rfl, s13⟩ ?_ ?_
    rotate_left
    · rintro σ H14 ⟨v17, rfl, s14⟩
      exact ⟨_, _, rfl, s14⟩
    rintro j' σ H14 hj' ⟨v17, rfl, s14⟩
    obtain ⟨v, hv⟩ : ∃ v, xs[j']? = some v := ⟨_, List.getElem?_eq_getElem hj'⟩
    obtain ⟨ky, hky, nv12⟩ := xsn j' v hv
    have ok := lyr_ok mo.b (by omega) R2 hky
    have hat : atI xs (0 + ((j' : Nat) : Int)) = some v := by
      rw [Int.zero_add]
      exact atI_nat hv
    refine seq_nx (fun σ' H' => σ' = [some (.ref a), some (.bl by'), some (.int sd), some (.ref M), some (.int ((deep : Nat) : Int)), some (.int R), some (.int ot), some (.int least), some (.ref b), v9, v10, some (.ref WL), some (.ref lw), some (.ref hd), some (.ref z), some (.ref D), some (.ref l), some (.int (0 + ((j' : Nat) : Int)))] ∧ Same H12 H') ?_ (fun N hN => ?_)
    rotate_left
    · rcases fd12.keep s14 with ⟨l2, ds, dd, kt, hz, hl2, dds, ddl, pth, no, yes⟩ | ⟨l2, ys, fr, hz, hl2, _⟩
      · have dl := paired_len dds
        refine ⟨z, _, _, rfl, SqT.of hz, rfl, rfl, _, rfl, iteT ⟨_, rfl, _, _, rfl, rfl, z, _, _, rfl, SqT.of hz, rfl, l2, ds, rfl, .inl (SqL.of hl2), _, _, rfl, rfl, _, rfl, ite2 (fun hlt => ?_) (fun _ => iteF (hN _ _ ⟨rfl, s14⟩))⟩⟩
        have hlt := of_decide_eq_true hlt
        refine ⟨_, rfl, _, rfl, l, _, _, v, rfl, rfl, SqL.of (s14 _ _ hxs), hat, _, rfl, _, rfl, v, b, ky, j' + 1, R, least, one, rfl, nv12.keep fun b ys => s14 _ _, ok, by omega, R2, l1, LK.sz_keep hb12 fun b ys => s14 _ _, fun H15 s15 => ⟨_, rfl, ?_⟩⟩
        rw [no (j' + 1) (by omega) ky hky]
        exact iteF (hN _ _ ⟨rfl, s14.trans s15⟩)
      · exact ⟨z, _, _, rfl, SqT.of hz, rfl, rfl, _, rfl, iteF (iteF (hN _ _ ⟨rfl, s14⟩))⟩
    clear s14
    rintro σ' H14 ⟨rfl, s14⟩
    rcases fd12.keep s14 with ⟨l2, ds, dd, kt, hz, _⟩ | ⟨l2, ys, fr, hz, hl2, fz, am, pw, has, out⟩
    · exact ⟨z, _, _, rfl, SqT.of hz, rfl, rfl, _, rfl, iteF (iteF ⟨_, rfl, s14⟩)⟩
    · have nv14 := nv12.keep fun b ys => s14 _ _
      rw [ok.key] at nv14
      obtain ⟨g, q, rfl, hg, hq⟩ := nv_at nv14
      have hli := SqL.of (K := K) (s14 _ _ hxs)
      refine ⟨z, _, _, rfl, SqT.of hz, rfl, rfl, _, rfl, iteT ⟨_, rfl, _, rfl, l, _, _, .ref g, rfl, rfl, hli, hat, g, _, 0, .int (m3 ky).1, rfl, rfl, hg.sq, rfl, _, rfl, _, _, rfl, rfl, _, rfl, ite2 (fun hf => ?_) (fun _ => iteF ⟨_, rfl, s14⟩)⟩⟩
      have hf := of_decide_eq_true hf
      have mx := ok.mx (by omega) R2 l1 hf
      refine ⟨_, rfl, _, rfl, l, _, _, .ref g, rfl, rfl, hli, hat, g, q, _, _, _, rfl, hg, hq, mx.am, mx.bt, mx.bb, mx.f1, mx.f2, fun p3 H15 s15 hp3 => ?_⟩
      refine ⟨z, _, _, rfl, SqT.of (s15 _ _ hz), rfl, p3, l2, stM (m3 ky), ys, fr, rfl, rfl, hp3, SqL.of (s15 _ _ hl2), fz.keep fun b ys => s15 _ _, _, rfl, ?_⟩
      rw [decide_eq_true (has (j' + 1) (by omega) ky hky hf)]
      exact iteF ⟨_, rfl, s14.trans s15⟩
end
end K64

/-! ### the head of a law some of whose makers have defaults -/
namespace L2
open PySem PySem.Spec PySem.Calls PyProof.Rows
/-- two makers, whose tables are among those that the head tells empty -/
theorem walk_ofM {l : PySem.W.OpenLaw} {n k : Nat} {q : Program} {loose : List Str} {XP : (Str → Option Value) → Heap → Prop} {YP : World → Heap → Prop} {d : DefRec} {K : Params → PySem.W.Frag} {CX : World → CXT} {sp : World → Addr → Addr → Sp} {x : Str} {ts : List Addr}
    (hn : l.most = some n) (hn2 : n ≤ sizeLine) (hdf : d.params.defaults = []) (hr : Room k callerA)
    (hY : ∀ (w : World) (h : Heap), YP w h → (K w.params).In h) (hYT : ∀ (w : World) (h : Heap), YP w h → ∀ P ∈ ts, h.get? P = some (PySem.W.tabObj #[]))
    (F : ∀ (w : World) (mg : Str → Option Value) (fa : Addr) (h : Heap), (K w.params).In h → h.Ns mainGlobals mg → mg d.name = some (.ref fa) →
      ∃ (fd : FuncData) (c1 T1 c2 T2 : Addr), PySem.W.codeHdIn (K w.params) c1 T1 = true ∧ PySem.W.codeHdIn (K w.params) c2 T2 = true ∧ T1 ∈ ts ∧ T2 ∈ ts ∧ PySem.W.noTabs (K w.params) = true ∧ (∀ (s : Shared) (u : Value), BindsTo s fd ⟨[u], []⟩ [(x, u)]) ∧
        ∀ base : Heap, (K w.params).In base → base.Ns mainGlobals mg → LamB mg base c1 T1 → LamB mg base c2 T2 → FnOk l.prog w (K w.params) mg base (CX w) k fa fd [x] (sp w T1 T2))
    (hsp : ∀ (w : World) (T1 T2 : Addr) (H : Hp) (a : Addr) (ns : List Int), ns.length ≤ n → H T1 = some (.tbl #[]) → H T2 = some (.tbl #[]) → SqL (K w.params) H a (ns.map V.int) → sp w T1 T2 [.ref a] H (fun v _ => v = .bl true) fun _ _ _ => False)
    (hCX : ∀ (w : World) (H : Hp) (s : Shared) (e : Value) (s' : Shared), CX w [] H s (fun _ _ _ => False) e s' → False) :
    PySem.W.WalkO q loose XP YP l.row.toRowW d [] (fun f vs => PySem.call f vs) := by
  refine Att.attach_call hn hdf fun w s₀ s₁ mg mb fa o pm cd doc a vs ns G Y ho hd hcd hmg hobj hints hlen hg => ?_
  have KX := hY w _ Y
  obtain ⟨fd, c1, T1, c2, T2, ht1, ht2, in1, in2, hnt, hb, hF⟩ := F w mg fa _ KX G.T.g hmg
  have C1 := PySem.W.codeHd_of_K KX ht1
  have C2 := PySem.W.codeHd_of_K KX ht2
  have hT1 := hYT w _ Y T1 in1
  have hT2 := hYT w _ Y T2 in2
  have hgT : ∀ T, s₁.heap.get? T = some (PySem.W.tabObj #[]) → mainGlobals ≠ T := fun T hT z => by
    obtain ⟨o, es, ep, e, hd, _⟩ := G.T.g
    rw [z, hT] at e; cases e; cases hd
  have hbm : ∀ T, s₁.heap.get? T = some (PySem.W.tabObj #[]) → s₁.heap.BuiltinsAt mg T := fun T hT => by
    obtain ⟨bm, ob, b1, b2, b3, b4, b5, b6⟩ := G.T.bmain
    refine ⟨bm, ob, b1, b2, fun z => ?_, fun z => ?_, b3, b4, b5, b6⟩
    · obtain ⟨o, es, ep, e, hd, _⟩ := G.T.g
      rw [z, e] at b3; cases b3; rw [hd] at b6; cases b6
    · rw [z, hT] at b3; cases b3; cases b4
  have two : ∀ {p : Addr × Addr → Prop}, p (c1, T1) → p (c2, T2) → ∀ q ∈ [(c1, T1), (c2, T2)], p q := fun h1 h2 q hq => by
    rcases List.mem_cons.mp hq with rfl | hq
    · exact h1
    · rw [List.mem_singleton.mp hq]; exact h2
  exact law_callTs (Ts := [(c1, T1), (c2, T2)]) KX G.T.g G.T.b G.T.builtins G.T.nolimit hg hobj hints (Nat.le_trans hlen hn2) hr (two C1 C2) (two hT1 hT2) hnt (two (hbm _ hT1) (hbm _ hT2)) (two (hgT _ hT1) (hgT _ hT2))
    (fun base h1 h2 h3 => hF base h1 h2 (h3 _ (List.mem_cons_self ..)) (h3 _ (List.mem_cons_of_mem _ (List.mem_cons_self ..)))) hb (fun H hO hS => hsp w T1 T2 H a ns hlen (hO _ (List.mem_cons_self ..)) (hO _ (List.mem_cons_of_mem _ (List.mem_cons_self ..))) hS) fun H e s' => hCX w H s₁ e s'
end L2

namespace K64
open PySem PySem.Spec PyProof.Rows L2 GM TM BF BE TR
/-- a def of the top, by its name -/
structure Dn (K : PySem.W.Frag) (x : Str) (st : Stmt) (ps : List Str) : Prop where
  ex : ∃ (f : Addr) (fd : FuncData), PySem.W.nsIn K mainGlobals x = some (some (.ref f)) ∧ Fun K x x st f fd ∧ Binds K fd ps []
theorem Dn.mk' {K : PySem.W.Frag} {x : Str} {st : Stmt} {ps : List Str} {f : Addr} {oc : Value} {od an : Option Addr} {osl : Array (Option Value)} {kV doc pm cdv ct : Value} (a : PySem.W.nsIn K mainGlobals x = some (some (.ref f)))
    (l : K.lookup f = some ⟨oc, od, .func (PySem.W.fnOf x x (defArgs st) (defBody st) (defScope st) .none kV doc pm an cdv ct), osl⟩) (c : PySem.W.codeIn K cdv x = true) (k : PySem.W.keepIn K (.ref f) = true)
    (hb : ∀ (kV doc pm : Value) (an : Option Addr) (cdv ct : Value) (us : List Value), us.length = ps.length → bindArgs (PySem.W.fnOf x x (defArgs st) (defBody st) (defScope st) .none kV doc pm an cdv ct) ⟨us, []⟩ = pure (ps.zip us)) : Dn K x st ps :=
  ⟨f, _, a, fun_mk (st := st) l c k, (fun_mk (st := st) l c k).binds hb⟩
theorem Dn.cal {P : Program} {w : World} {K : PySem.W.Frag} {mg : Str → Option Value} {base h : Heap} {CX : CXT} {k : Nat} {x : Str} {st : Stmt} {ps : List Str} {sp : Sp} (D : Dn K x st ps) (X : K.In h) (G : h.Ns mainGlobals mg)
    (ok : ∀ {f : Addr} {fd : FuncData}, Fun K x x st f fd → FnOk P w K mg base CX k f fd ps sp) : Cal P w K mg base CX k x ps sp := by
  obtain ⟨f, fd, a, F, b⟩ := D.ex
  exact ⟨f, fd, PySem.W.mg_of X G a, F.kp, b, ok F⟩

/-- the def that makes a lambda, its code at c, its table at T -/
structure DnC (K : PySem.W.Frag) (x : Str) (st : Stmt) (ps : List Str) (c T : Addr) : Prop where
  ex : ∃ (f : Addr) (fd : FuncData), PySem.W.nsIn K mainGlobals x = some (some (.ref f)) ∧ FunC K x x st f fd c ∧ Binds K fd ps []
  tab : PySem.W.tabIn K x = some (c, T)
theorem DnC.mk' {K : PySem.W.Frag} {x : Str} {st : Stmt} {ps : List Str} {f c T : Addr} {oc oc' : Value} {od an od' : Option Addr} {osl osl' : Array (Option Value)} {kV doc pm ct : Value} {vs : Array Value} (a : PySem.W.nsIn K mainGlobals x = some (some (.ref f)))
    (l : K.lookup f = some ⟨oc, od, .func (PySem.W.fnOf x x (defArgs st) (defBody st) (defScope st) .none kV doc pm an (.ref c) ct), osl⟩) (hc : PySem.W.codeIn K (.ref c) x = true) (k : PySem.W.keepIn K (.ref f) = true)
    (lc : K.lookup c = some ⟨oc', od', .fields vs, osl'⟩) (hv : vs[11]? = some (.ref T))
    (hb : ∀ (kV doc pm : Value) (an : Option Addr) (cdv ct : Value) (us : List Value), us.length = ps.length → bindArgs (PySem.W.fnOf x x (defArgs st) (defBody st) (defScope st) .none kV doc pm an cdv ct) ⟨us, []⟩ = pure (ps.zip us)) : DnC K x st ps c T := by
  refine ⟨⟨f, _, a, ⟨⟨oc, od, kV, doc, pm, an, ct, osl, rfl, l, hc⟩, k⟩, (fun_mk (st := st) l hc k).binds hb⟩, ?_⟩
  unfold PySem.W.tabIn
  rw [a]
  dsimp only
  rw [l]
  dsimp only [PySem.W.fnOf]
  rw [lc]
  dsimp only
  rw [hv]
theorem DnC.cal {P : Program} {w : World} {K : PySem.W.Frag} {mg : Str → Option Value} {base h : Heap} {CX : CXT} {k : Nat} {x : Str} {st : Stmt} {ps : List Str} {sp : Sp} {c T : Addr} (D : DnC K x st ps c T) (X : K.In h) (G : h.Ns mainGlobals mg)
    (ok : ∀ {f : Addr} {fd : FuncData}, FunC K x x st f fd c → FnOk P w K mg base CX k f fd ps sp) : Cal P w K mg base CX k x ps sp := by
  obtain ⟨f, fd, a, F, b⟩ := D.ex
  exact ⟨f, fd, PySem.W.mg_of X G a, F.kp, b, ok F⟩
def SpK (K : PySem.W.Frag) : Prop := ∃ (f dT : Addr) (oc oc2 kV doc pm cdv ct : Value) (od od2 an : Option Addr) (osl sl2 : Array (Option Value)) (tk1 tk2 : Tok) (n2 : Nat),
  PySem.W.nsIn K mainGlobals "spread" = some (some (.ref f)) ∧ K.lookup f = some ⟨oc, od, .func (PySem.W.fnOf "spread" "spread" (defArgs sSpread) (defBody sSpread) (defScope sSpread) (.ref dT) kV doc pm an cdv ct), osl⟩ ∧ PySem.W.codeIn K cdv "spread" = true ∧ PySem.W.keepIn K (.ref f) = true ∧ K.lookup dT = some ⟨oc2, od2, .seq #[.int 60 tk1, .int 2000 tk2] n2, sl2⟩
theorem SpK.mk' {K : PySem.W.Frag} {f dT : Addr} {oc oc2 kV doc pm cdv ct : Value} {od od2 an : Option Addr} {osl sl2 : Array (Option Value)} {tk1 tk2 : Tok} {n2 : Nat} (a : PySem.W.nsIn K mainGlobals "spread" = some (some (.ref f)))
    (l : K.lookup f = some ⟨oc, od, .func (PySem.W.fnOf "spread" "spread" (defArgs sSpread) (defBody sSpread) (defScope sSpread) (.ref dT) kV doc pm an cdv ct), osl⟩) (c : PySem.W.codeIn K cdv "spread" = true) (k : PySem.W.keepIn K (.ref f) = true) (d : K.lookup dT = some ⟨oc2, od2, .seq #[.int 60 tk1, .int 2000 tk2] n2, sl2⟩) : SpK K := ⟨_, _, _, _, _, _, _, _, _, _, _, _, _, _, _, _, _, a, l, c, k, d⟩
theorem bind5 {K : PySem.W.Frag} {s : Shared} {us : List Value} {dT : Addr} {oc2 kV doc pm cdv ct : Value} {od2 an : Option Addr} {sl2 : Array (Option Value)} {tk1 tk2 : Tok} {n2 : Nat} (hK : K.In s.heap) (d : K.lookup dT = some ⟨oc2, od2, .seq #[.int 60 tk1, .int 2000 tk2] n2, sl2⟩) (hl : (us ++ ([] : List Value)).length = 5) :
    BindsTo s (PySem.W.fnOf "spread" "spread" (defArgs sSpread) (defBody sSpread) (defScope sSpread) (.ref dT) kV doc pm an cdv ct) ⟨us, []⟩ ((["first", "steps", "sought", "deepest", "most"] : List Str).zip (us ++ ([] : List Value))) := by
  rw [List.length_append] at hl
  have hl : us.length = 5 := Nat.add_right_cancel (m := 0) hl
  match us, hl with
  | [a, b, c, e, g], _ => exact PySem.W.binds_K hK rfl d rfl rfl rfl
/-- amount, whose bottom may be left out -/
def AmK (K : PySem.W.Frag) : Prop := ∃ (f dT : Addr) (oc oc2 kV doc pm cdv ct : Value) (od od2 an : Option Addr) (osl sl2 : Array (Option Value)) (tk : Tok) (n2 : Nat),
  PySem.W.nsIn K mainGlobals "amount" = some (some (.ref f)) ∧ K.lookup f = some ⟨oc, od, .func (PySem.W.fnOf "amount" "amount" (defArgs sAmount) (defBody sAmount) (defScope sAmount) (.ref dT) kV doc pm an cdv ct), osl⟩ ∧
  PySem.W.codeIn K cdv "amount" = true ∧ PySem.W.keepIn K (.ref f) = true ∧ K.lookup dT = some ⟨oc2, od2, .seq #[.int 1 tk] n2, sl2⟩
theorem AmK.mk' {K : PySem.W.Frag} {f dT : Addr} {oc oc2 kV doc pm cdv ct : Value} {od od2 an : Option Addr} {osl sl2 : Array (Option Value)} {tk : Tok} {n2 : Nat} (a : PySem.W.nsIn K mainGlobals "amount" = some (some (.ref f)))
    (l : K.lookup f = some ⟨oc, od, .func (PySem.W.fnOf "amount" "amount" (defArgs sAmount) (defBody sAmount) (defScope sAmount) (.ref dT) kV doc pm an cdv ct), osl⟩) (c : PySem.W.codeIn K cdv "amount" = true) (k : PySem.W.keepIn K (.ref f) = true)
    (d : K.lookup dT = some ⟨oc2, od2, .seq #[.int 1 tk] n2, sl2⟩) : AmK K := ⟨_, _, _, _, _, _, _, _, _, _, _, _, _, _, _, _, a, l, c, k, d⟩
theorem bind2 {K : PySem.W.Frag} {s : Shared} {us : List Value} {dT : Addr} {oc2 kV doc pm cdv ct : Value} {od2 an : Option Addr} {sl2 : Array (Option Value)} {tk : Tok} {n2 : Nat} (hK : K.In s.heap) (d : K.lookup dT = some ⟨oc2, od2, .seq #[.int 1 tk] n2, sl2⟩) (hl : (us ++ []).length = 2) :
    BindsTo s (PySem.W.fnOf "amount" "amount" (defArgs sAmount) (defBody sAmount) (defScope sAmount) (.ref dT) kV doc pm an cdv ct) ⟨us, []⟩ ((["top", "bottom"] : List Str).zip (us ++ [])) := by
  match us, hl with
  | [a, b], _ => exact PySem.W.binds_K hK rfl d rfl rfl rfl
  | [], h => simp at h
  | [_], h => simp at h
  | _ :: _ :: _ :: _, h => simp at h
structure NouK (K : PySem.W.Frag) (aN : Addr) : Prop where
  m : PySem.W.nsIn K mainGlobals "NOUGHT" = some (some (.ref aN))
  s : ∀ H : Hp, SqT K H aN [.int 0, .int 1]
theorem NouK.mk' {K : PySem.W.Frag} {aN : Addr} {od : Option Addr} {t0 t1 : Tok} {n : Nat} {sl : Array (Option Value)} (a : PySem.W.nsIn K mainGlobals "NOUGHT" = some (some (.ref aN)))
    (l : K.lookup aN = some ⟨.type "tuple", od, .seq #[.int 0 t0, .int 1 t1] n, sl⟩) : ∃ aN : Addr, NouK K aN :=
  ⟨aN, a, fun _ => .inr ⟨_, _, _, l, rfl, rfl, (by show 2 ≤ sizeLine; decide), .cons ⟨_, rfl⟩ (.cons ⟨_, rfl⟩ .nil)⟩⟩
structure EmK (K : PySem.W.Frag) (aE aE1 : Addr) : Prop where
  m : PySem.W.nsIn K mainGlobals "EMPTY_MIXING" = some (some (.ref aE))
  s : ∀ H : Hp, SqZ K H aE [.int 0, .ref aE1]
  s1 : ∀ H : Hp, SqZ K H aE1 [.int 0, .int 1]
theorem EmK.mk' {K : PySem.W.Frag} {aE aE1 : Addr} {od od' : Option Addr} {t0 t1 t2 : Tok} {n n' : Nat} {sl sl' : Array (Option Value)} (a : PySem.W.nsIn K mainGlobals "EMPTY_MIXING" = some (some (.ref aE)))
    (l : K.lookup aE = some ⟨.type "tuple", od, .seq #[.int 0 t0, .ref aE1] n, sl⟩) (l1 : K.lookup aE1 = some ⟨.type "tuple", od', .seq #[.int 0 t1, .int 1 t2] n', sl'⟩) : ∃ aE aE1 : Addr, EmK K aE aE1 :=
  ⟨aE, aE1, a, fun _ => .inr ⟨_, _, _, l, rfl, rfl, (by show 2 ≤ sizeLine; decide), .cons ⟨_, rfl⟩ (.cons rfl .nil)⟩, fun _ => .inr ⟨_, _, _, l1, rfl, rfl, (by show 2 ≤ sizeLine; decide), .cons ⟨_, rfl⟩ (.cons ⟨_, rfl⟩ .nil)⟩⟩
structure AskC (K : PySem.W.Frag) (c T : Addr) : Prop where
  ex : ∃ (f dT : Addr) (oc oc2 kV doc pm ct : Value) (od od2 an : Option Addr) (osl sl2 : Array (Option Value)) (tk1 tk2 tk3 : Tok) (n2 : Nat), PySem.W.nsIn K mainGlobals "asked_for" = some (some (.ref f)) ∧ K.lookup f = some ⟨oc, od, .func (PySem.W.fnOf "asked_for" "asked_for" (defArgs sAskedFor) (defBody sAskedFor) (defScope sAskedFor) (.ref dT) kV doc pm an (.ref c) ct), osl⟩ ∧ PySem.W.codeIn K (.ref c) "asked_for" = true ∧ PySem.W.keepIn K (.ref f) = true ∧ K.lookup dT = some ⟨oc2, od2, .seq #[.int 1 tk1, .int 6 tk2, .int 2000 tk3] n2, sl2⟩
theorem AskC.mk' {K : PySem.W.Frag} {f dT c T : Addr} {oc oc' oc2 kV doc pm ct : Value} {od od' od2 an : Option Addr} {osl osl' sl2 : Array (Option Value)} {vs : Array Value} {tk1 tk2 tk3 : Tok} {n2 : Nat} (a : PySem.W.nsIn K mainGlobals "asked_for" = some (some (.ref f)))
    (l : K.lookup f = some ⟨oc, od, .func (PySem.W.fnOf "asked_for" "asked_for" (defArgs sAskedFor) (defBody sAskedFor) (defScope sAskedFor) (.ref dT) kV doc pm an (.ref c) ct), osl⟩) (hc : PySem.W.codeIn K (.ref c) "asked_for" = true) (k : PySem.W.keepIn K (.ref f) = true) (d : K.lookup dT = some ⟨oc2, od2, .seq #[.int 1 tk1, .int 6 tk2, .int 2000 tk3] n2, sl2⟩) (_lc : K.lookup c = some ⟨oc', od', .fields vs, osl'⟩) (_hv : vs[11]? = some (.ref T)) : AskC K c T := ⟨⟨_, _, _, _, _, _, _, _, _, _, _, _, _, _, _, _, _, a, l, hc, k, d⟩⟩
theorem bindA3 {K : PySem.W.Frag} {s : Shared} {us : List Value} {dT c : Addr} {oc2 kV doc pm ct : Value} {od2 an : Option Addr} {sl2 : Array (Option Value)} {tk1 tk2 tk3 : Tok} {n2 : Nat} (hK : K.In s.heap) (d : K.lookup dT = some ⟨oc2, od2, .seq #[.int 1 tk1, .int 6 tk2, .int 2000 tk3] n2, sl2⟩) (hl : (us ++ [Value.int 1 tk1, Value.int 6 tk2, Value.int 2000 tk3]).length = 6) :
    BindsTo s (PySem.W.fnOf "asked_for" "asked_for" (defArgs sAskedFor) (defBody sAskedFor) (defScope sAskedFor) (.ref dT) kV doc pm an (.ref c) ct) ⟨us, []⟩ ((["measures", "room", "one", "least", "deepest", "most"] : List Str).zip (us ++ [Value.int 1 tk1, Value.int 6 tk2, Value.int 2000 tk3])) := by
  rw [List.length_append] at hl
  have hl : us.length = 3 := Nat.add_right_cancel (m := 3) hl
  match us, hl with
  | [a, b, c], _ => exact PySem.W.binds_K hK rfl d rfl rfl rfl
theorem bindA5 {K : PySem.W.Frag} {s : Shared} {us : List Value} {dT c : Addr} {oc2 kV doc pm ct : Value} {od2 an : Option Addr} {sl2 : Array (Option Value)} {tk1 tk2 tk3 : Tok} {n2 : Nat} (hK : K.In s.heap) (d : K.lookup dT = some ⟨oc2, od2, .seq #[.int 1 tk1, .int 6 tk2, .int 2000 tk3] n2, sl2⟩) (hl : (us ++ [Value.int 2000 tk3]).length = 6) :
    BindsTo s (PySem.W.fnOf "asked_for" "asked_for" (defArgs sAskedFor) (defBody sAskedFor) (defScope sAskedFor) (.ref dT) kV doc pm an (.ref c) ct) ⟨us, []⟩ ((["measures", "room", "one", "least", "deepest", "most"] : List Str).zip (us ++ [Value.int 2000 tk3])) := by
  rw [List.length_append] at hl
  have hl : us.length = 5 := Nat.add_right_cancel (m := 1) hl
  match us, hl with
  | [a, b, c, e, g], _ => exact PySem.W.binds_K hK rfl d rfl rfl rfl
theorem bindA6 {K : PySem.W.Frag} {s : Shared} {us : List Value} {dT c : Addr} {oc2 kV doc pm ct : Value} {od2 an : Option Addr} {sl2 : Array (Option Value)} {tk1 tk2 tk3 : Tok} {n2 : Nat} (hK : K.In s.heap) (d : K.lookup dT = some ⟨oc2, od2, .seq #[.int 1 tk1, .int 6 tk2, .int 2000 tk3] n2, sl2⟩) (hl : (us ++ ([] : List Value)).length = 6) :
    BindsTo s (PySem.W.fnOf "asked_for" "asked_for" (defArgs sAskedFor) (defBody sAskedFor) (defScope sAskedFor) (.ref dT) kV doc pm an (.ref c) ct) ⟨us, []⟩ ((["measures", "room", "one", "least", "deepest", "most"] : List Str).zip (us ++ ([] : List Value))) := by
  rw [List.length_append] at hl
  have hl : us.length = 6 := Nat.add_right_cancel (m := 0) hl
  match us, hl with
  | [a, b, c, e, g, i], _ => exact PySem.W.binds_K hK rfl d rfl rfl rfl
structure ErNK (K : PySem.W.Frag) (cP cM fI : Addr) : Prop where
  ef : ExF K cM cP fI "most"
  ct : CtK K cM
  s : PySem.W.subIn K (.ref cM) (.ref cM) = some true
  bi : BaseI K cP
  iP : PySem.W.kitOne K (.ref cM) (.ref cP) = some true
  iV : PySem.W.kitOne K (.ref cM) (.type "ValueError") = some true
  mP : PySem.W.nsIn K mainGlobals "PhialError" = some (some (.ref cP))
  mM : PySem.W.nsIn K mainGlobals "TooMany" = some (some (.ref cM))
  fn : ∃ fd : FuncData, Fun K "__init__" "TooMany.__init__" sInit fI fd ∧ Binds K fd ["self", "most"] []
theorem ErNK.er {K : PySem.W.Frag} {mg : Str → Option Value} {h : Heap} {cP cM fI : Addr} (E : ErNK K cP cM fI) (X : K.In h) (G : h.Ns mainGlobals mg) : ErM K mg cP cM fI := ⟨E.ef, E.ct, E.bi, E.s, E.iP, E.iV, PySem.W.mg_of X G E.mP, PySem.W.mg_of X G E.mM⟩
theorem fnI_mk {K : PySem.W.Frag} {f : Addr} {oc : Value} {od an : Option Addr} {osl : Array (Option Value)} {kV doc pm cdv ct : Value}
    (l : K.lookup f = some ⟨oc, od, .func (PySem.W.fnOf "__init__" "TooMany.__init__" (defArgs sInit) (defBody sInit) (defScope sInit) .none kV doc pm an cdv ct), osl⟩) (c : PySem.W.codeIn K cdv "TooMany.__init__" = true) (k : PySem.W.keepIn K (.ref f) = true) :
    ∃ fd : FuncData, Fun K "__init__" "TooMany.__init__" sInit f fd ∧ Binds K fd ["self", "most"] [] :=
  ⟨_, fun_mk (st := sInit) l c k, (fun_mk (st := sInit) l c k).binds fun _ _ _ _ _ _ us hl => match us, hl with | [_, _], _ => rfl⟩
theorem err_mk {K : PySem.W.Frag} {cP cM fI : Addr} {od : Option Addr} {cd : ClassData} {sl : Array (Option Value)}
    (mP : PySem.W.nsIn K mainGlobals "PhialError" = some (some (.ref cP)))
    (mM : PySem.W.nsIn K mainGlobals "TooMany" = some (some (.ref cM)))
    (_lk : K.lookup cM = some ⟨.type "type", od, .cls cd, sl⟩) (_ni : PySem.W.nsIn K cd.ns "__init__" = some (some (.ref fI)))
    (ef : ExF K cM cP fI "most")
    (ct : CtK K cM)
    (s : PySem.W.subIn K (.ref cM) (.ref cM) = some true)
    (bi : BaseI K cP)
    (iP : PySem.W.kitOne K (.ref cM) (.ref cP) = some true)
    (iV : PySem.W.kitOne K (.ref cM) (.type "ValueError") = some true)
    (fn : ∃ fd : FuncData, Fun K "__init__" "TooMany.__init__" sInit fI fd ∧ Binds K fd ["self", "most"] []) : ∃ cP cM fI : Addr, ErNK K cP cM fI :=
  ⟨_, _, _, ef, ct, s, bi, iP, iV, mP, mM, fn⟩
structure AllD (K : PySem.W.Frag) : Prop where
  dIsWh : Dn K "is_whole_number" sIsWh ["thing"]
  dGcd : Dn K "common_divisor" sGcd ["one", "other"]
  dLow : Dn K "lowest_terms" sLow ["top", "bottom"]
  dPlus : Dn K "plus" sPlus ["one", "other"]
  dTimes : Dn K "times" sTimes ["one", "other"]
  dOver : Dn K "over" sOver ["one", "other"]
  dWayTo : Dn K "way_to" sWayTo ["rows", "place"]
  dSteps : Dn K "steps_from" sSteps ["measures", "room", "mixing"]
  dStr : Dn K "strength" sStr ["mixing"]
  dStrOf : Dn K "strengths_of" sStrOf ["mixings"]
  dCell : Dn K "_law_cell_at" sCell ["_law_script", "_law_k"]
  dWhole : Dn K "_law_whole" sWhole ["_law_found"]
  dMixed : Dn K "_law_mixed" sMixed ["_law_cell", "_law_k"]
  dDiv : Dn K "_law_divisor" sDiv ["_law_one", "_law_other"]
  dLlow : Dn K "_law_low" sLlow ["_law_top", "_law_bottom"]
  dMxs : Dn K "_law_mixings" sMxs ["_law_measures_here", "_law_room", "_law_mixing"]
  dLstr : Dn K "_law_strength" sLstr ["_law_mixing"]
  dMeas : Dn K "_law_measures" sMeas ["_law_cell"]
  dLWalks : Dn K "_law_walks" sLWalks ["_law_measures_here", "_law_room", "_law_deepest", "_law_cells"]
  dLIsIt : Dn K "_law_is_it" sLIsIt ["_law_mixing", "_law_least", "_law_one"]
  dLMade : Dn K "_law_made" sLMade ["_law_measures_here", "_law_room", "_law_way", "_law_least", "_law_one"]
  dLListed : Dn K "_law_listed" sLListed ["_law_found"]
  dLAsked : Dn K "_law_asked" sLAsked ["_law_measures_here", "_law_room", "_law_one", "_law_least", "_law_deepest", "_law_short"]
  dMby : Dn K "_law_measures_by" sMby ["_law_cell", "_law_many"]
  z0 : PySem.W.nsIn K mainGlobals "isinstance" = some none
  z1 : PySem.W.nsIn K mainGlobals "int" = some none
  z2 : PySem.W.nsIn K mainGlobals "bool" = some none
  z3 : PySem.W.nsIn K mainGlobals "tuple" = some none
  z4 : PySem.W.nsIn K mainGlobals "str" = some none
  z5 : PySem.W.nsIn K mainGlobals "len" = some none
  z6 : PySem.W.nsIn K mainGlobals "range" = some none
  z7 : PySem.W.nsIn K mainGlobals "min" = some none
  z8 : PySem.W.nsIn K mainGlobals "abs" = some none
  z9 : PySem.W.nsIn K mainGlobals "list" = some none
  z10 : PySem.W.nsIn K mainGlobals "ValueError" = some none
  z11 : PySem.W.nsIn K mainGlobals "max" = some none
  z12 : PySem.W.nsIn K mainGlobals "sum" = some none
  z13 : PySem.W.nsIn K mainGlobals "sorted" = some none
  am : AmK K
  nou : ∃ aN : Addr, NouK K aN
  em : ∃ aE aE1 : Addr, EmK K aE aE1
  sp : SpK K
  err : ∃ cP cM fI : Addr, ErNK K cP cM fI
theorem AllD.txt {K : PySem.W.Frag} {mg : Str → Option Value} {h : Heap} (A : AllD K) (X : K.In h) (G : h.Ns mainGlobals mg) : Txt mg := ⟨PySem.W.mg_none_of X G A.z0, PySem.W.mg_none_of X G A.z1, PySem.W.mg_none_of X G A.z2, PySem.W.mg_none_of X G A.z3, PySem.W.mg_none_of X G A.z4, PySem.W.mg_none_of X G A.z5, PySem.W.mg_none_of X G A.z6, PySem.W.mg_none_of X G A.z7, PySem.W.mg_none_of X G A.z8, PySem.W.mg_none_of X G A.z9, PySem.W.mg_none_of X G A.z10, PySem.W.mg_none_of X G A.z11, PySem.W.mg_none_of X G A.z12, PySem.W.mg_none_of X G A.z13⟩
theorem law_ok {P : Program} {w : World} {K : PySem.W.Frag} {mg : Str → Option Value} {base h : Heap} {f c1 T1 c2 T2 : Addr} {fd : FuncData} (X : K.In h) (G : h.Ns mainGlobals mg) (A : AllD K) (C1 : AskC K c1 T1) (C2 : DnC K "rising" sRising ["fractions"] c2 T2) (B1 : LamB mg base c1 T1) (B2 : LamB mg base c2 T2) (nT : T1 ≠ T2) (F : Fun K "law" "law" sLaw f fd) :
    FnOk P w K mg base CX0 10 f fd ["_law_script"] (spLaw K T1 T2) := by
  have T : Txt mg := A.txt X G
  obtain ⟨cP, cM, fI, EK⟩ := A.err
  have R := EK.er X G
  obtain ⟨fdI, FI, bI⟩ := EK.fn
  have kI : FnOk P w K mg base CX0 1 fI fdI ["self", "most"] (spInit cM) := ok_init FI R
  obtain ⟨aN, NK⟩ := A.nou
  have mN := PySem.W.mg_of X G NK.m
  obtain ⟨aE, aE1, EM⟩ := A.em
  have mE := PySem.W.mg_of X G EM.m
  have cIs : Cal P w K mg base CX0 1 "is_whole_number" ["thing"] spWhole := A.dIsWh.cal X G fun F => ok_iswh F T
  have cGc : Cal P w K mg base CX0 1 "common_divisor" ["one", "other"] spGcd := A.dGcd.cal X G ok_gcd
  have cLw : Cal P w K mg base CX0 2 "lowest_terms" ["top", "bottom"] spLow := A.dLow.cal X G fun F => ok_low F cGc
  have cPl : Cal P w K mg base CX0 3 "plus" ["one", "other"] (spPlus K) := A.dPlus.cal X G fun F => ok_plus F mN NK.s cLw
  have cTi : Cal P w K mg base CX0 3 "times" ["one", "other"] (spTimes K) := A.dTimes.cal X G fun F => ok_times F cLw
  have cOv : Cal P w K mg base CX0 3 "over" ["one", "other"] (spOver K) := A.dOver.cal X G fun F => ok_over F mN NK.s cLw
  have cAm : Cal P w K mg base CX0 3 "amount" ["top", "bottom"] (spAmount K) := by
    obtain ⟨fa, dT, oc, oc2, kV, doc, pm, cdv, ct, od, od2, an, osl, sl2, tk, n2, q1, q2, q3, q4, q5⟩ := A.am
    exact ⟨fa, _, PySem.W.mg_of X G q1, q4, fun s us hK hl => bind2 hK q5 hl, ok_amount q2 q3 (cIs.mono (by decide)) cLw⟩
  have cSt : Cal P w K mg base CX0 4 "steps_from" ["measures", "room", "mixing"] (K64.spSteps K) := A.dSteps.cal X G fun F => ok_steps F cPl cTi cAm
  have cSr : Cal P w K mg base CX0 4 "strength" ["mixing"] (spStr K) := A.dStr.cal X G fun F => ok_str F cOv
  have cWa : Cal P w K mg base CX0 1 "way_to" ["rows", "place"] (spWayTo K) := A.dWayTo.cal X G fun F => ok_wayto F
  have cRi : Cal P w K mg base CX0 2 "rising" ["fractions"] (spRising K T2) := C2.cal X G fun F => ok_rising F T B2
  have cSo : Cal P w K mg base CX0 5 "strengths_of" ["mixings"] (spStrOf K T2) := A.dStrOf.cal X G fun F => ok_strof F T cSr cRi
  have cSp : Cal P w K mg base (CXg P w) 7 "spread" ["first", "steps", "sought", "deepest", "most"] (spSpread P w K mg base cM) := by
    obtain ⟨fa, dT, oc, oc2, kV, doc, pm, cdv, ct, od, od2, an, osl, sl2, tk1, tk2, n2, q1, q2, q3, q4, q5⟩ := A.sp
    exact ⟨fa, _, PySem.W.mg_of X G q1, q4, fun s us hK hl => bind5 hK q5 hl, ok_spread q2 q3 T R kI bI⟩
  obtain ⟨fa, dT, oc, oc2, kV, doc, pm, ct, od, od2, an, osl, sl2, tk1, tk2, tk3, n2, q1, q2, q3, q4, q5⟩ := C1.ex
  have FA : FnOk P w K mg base (CXg P w) 8 fa _ ["measures", "room", "one", "least", "deepest", "most"] (spAsked K T1 T2 cM) := ok_asked q2 q3 B1 mE EM.s EM.s1 cSt cSr cSp cWa cSo
  have cA3 : CalD P w K mg base (CXg P w) 8 "asked_for" psA (spAsked K T1 T2 cM) [.int 1, .int 6, .int 2000] := ⟨fa, _, [.int 1 tk1, .int 6 tk2, .int 2000 tk3], PySem.W.mg_of X G q1, q4, fun s us hK hl => bindA3 hK q5 hl, .cons ⟨_, rfl⟩ (.cons ⟨_, rfl⟩ (.cons ⟨_, rfl⟩ .nil)), FA⟩
  have cA5 : CalD P w K mg base (CXg P w) 8 "asked_for" psA (spAsked K T1 T2 cM) [.int 2000] := ⟨fa, _, [.int 2000 tk3], PySem.W.mg_of X G q1, q4, fun s us hK hl => bindA5 hK q5 hl, .cons ⟨_, rfl⟩ .nil, FA⟩
  have cA6 : CalD P w K mg base (CXg P w) 8 "asked_for" psA (spAsked K T1 T2 cM) [] := ⟨fa, _, [], PySem.W.mg_of X G q1, q4, fun s us hK hl => bindA6 hK q5 hl, .nil, FA⟩
  have cC : Cal P w K mg base CX0 1 "_law_cell_at" ["_law_script", "_law_k"] (spCell K) := A.dCell.cal X G fun F => ok_cell F T
  have cX : Cal P w K mg base CX0 1 "_law_mixed" ["_law_cell", "_law_k"] spMixed := A.dMixed.cal X G fun F => ok_mixed F
  have cDv : Cal P w K mg base CX0 1 "_law_divisor" ["_law_one", "_law_other"] spGcd := A.dDiv.cal X G ok_div
  have cLo : Cal P w K mg base CX0 2 "_law_low" ["_law_top", "_law_bottom"] spLow := A.dLlow.cal X G fun F => ok_llow F cDv
  have cMx : Cal P w K mg base CX0 3 "_law_mixings" ["_law_measures_here", "_law_room", "_law_mixing"] (K64.spSteps K) := A.dMxs.cal X G fun F => ok_mxs F cLo
  have cLs : Cal P w K mg base CX0 3 "_law_strength" ["_law_mixing"] (spStr K) := A.dLstr.cal X G fun F => ok_lstr F cLo
  have cMb : Cal P w K mg base CX0 1 "_law_measures_by" ["_law_cell", "_law_many"] spMby := A.dMby.cal X G fun F => ok_mby F T
  have cW : Cal P w K mg base CX0 1 "_law_whole" ["_law_found"] spWhole := A.dWhole.cal X G fun F => ok_whole F T
  have cMe : Cal P w K mg base CX0 1 "_law_measures" ["_law_cell"] spMeas := A.dMeas.cal X G fun F => ok_meas F T
  have cWk : Cal P w K mg base CX0 4 "_law_walks" ["_law_measures_here", "_law_room", "_law_deepest", "_law_cells"] (spWalks K) := A.dLWalks.cal X G fun F => ok_walks F T cMx (cX.mono (by decide))
  have cIt : Cal P w K mg base CX0 4 "_law_is_it" ["_law_mixing", "_law_least", "_law_one"] (spIsIt K) := A.dLIsIt.cal X G fun F => ok_isit F cLs
  have cMd : Cal P w K mg base CX0 5 "_law_made" ["_law_measures_here", "_law_room", "_law_way", "_law_least", "_law_one"] (spMade K) := A.dLMade.cal X G fun F => ok_made F T cIt (cMx.mono (by decide))
  have cLi : Cal P w K mg base CX0 2 "_law_listed" ["_law_found"] (spListed K) := A.dLListed.cal X G fun F => ok_listed F T cW cDv
  have cAs : Cal P w K mg base CX0 9 "_law_asked" ["_law_measures_here", "_law_room", "_law_one", "_law_least", "_law_deepest", "_law_short"] (spLask K T1 T2 cM) := A.dLAsked.cal X G fun F => ok_lask F cA3 cA5 cA6
  exact ok_law F T nT (cC.mono (by decide)) (cX.mono (by decide)) (cMe.mono (by decide)) (cMb.mono (by decide)) (cWk.mono (by decide)) (cLo.mono (by decide)) (cLs.mono (by decide)) (cIt.mono (by decide)) (cMd.mono (by decide)) (cLi.mono (by decide)) cAs
theorem all_mk {l : PySem.W.OpenLaw} {w : World} {K : PySem.W.Frag} {h : Heap} {mg : Str → Option Value} {fa f4 c1 T1 c2 T2 : Addr} {ts : List Addr} (X : K.In h) (G : h.Ns mainGlobals mg) (hfa : mg "law" = some (.ref fa)) (A : AllD K) (C1 : AskC K c1 T1) (C2 : DnC K "rising" sRising ["fractions"] c2 T2) (nt : PySem.W.noTabs K = true)
    {od4 an4 : Option Addr} {sl4 : Array (Option Value)} {oc4 kV4 dc4 pm4 cd4 ct4 : Value}
    (a4 : PySem.W.nsIn K mainGlobals "law" = some (some (.ref f4))) (l4 : K.lookup f4 = some ⟨oc4, od4, .func (PySem.W.fnOf "law" "law" (defArgs sLaw) (defBody sLaw) (defScope sLaw) .none kV4 dc4 pm4 an4 cd4 ct4), sl4⟩) (c4 : PySem.W.codeIn K cd4 "law" = true) (k4 : PySem.W.keepIn K (.ref f4) = true) (nT : T1 ≠ T2) (h1 : PySem.W.codeHdIn K c1 T1 = true) (h2 : PySem.W.codeHdIn K c2 T2 = true) (i1 : T1 ∈ ts) (i2 : T2 ∈ ts) :
    ∃ (fd : FuncData) (c1 T1 c2 T2 : Addr), PySem.W.codeHdIn K c1 T1 = true ∧ PySem.W.codeHdIn K c2 T2 = true ∧ T1 ∈ ts ∧ T2 ∈ ts ∧ PySem.W.noTabs K = true ∧ (∀ (s : Shared) (v : Value), BindsTo s fd ⟨[v], []⟩ [("_law_script", v)]) ∧ ∀ base : Heap, K.In base → base.Ns mainGlobals mg → LamB mg base c1 T1 → LamB mg base c2 T2 → FnOk l.prog w K mg base CX0 10 fa fd ["_law_script"] (spLaw K T1 T2) := by
  have e := hfa.symm.trans (PySem.W.mg_of X G a4)
  cases e
  exact ⟨PySem.W.fnOf "law" "law" (defArgs sLaw) (defBody sLaw) (defScope sLaw) .none kV4 dc4 pm4 an4 cd4 ct4, c1, T1, c2, T2, h1, h2, i1, i2, nt, fun s v => .of_eq rfl, fun base _ _ B1 B2 => law_ok X G A C1 C2 B1 B2 nT (fun_mk (st := sLaw) l4 c4 k4)⟩
theorem walk {l : PySem.W.OpenLaw} {q : Program} {loose : List Str} {XP : (Str → Option Value) → Heap → Prop} {YP : World → Heap → Prop} {d : DefRec} {K : Params → PySem.W.Frag} {ts : List Addr} (hn : l.most = some 63) (hdf : d.params.defaults = [])
    (hY : ∀ (w : World) (h : Heap), YP w h → (K w.params).In h) (hYT : ∀ (w : World) (h : Heap), YP w h → ∀ P ∈ ts, h.get? P = some (PySem.W.tabObj #[]))
    (F : ∀ (w : World) (mg : Str → Option Value) (fa : Addr) (h : Heap), (K w.params).In h → h.Ns mainGlobals mg → mg d.name = some (.ref fa) → ∃ (fd : FuncData) (c1 T1 c2 T2 : Addr), PySem.W.codeHdIn (K w.params) c1 T1 = true ∧ PySem.W.codeHdIn (K w.params) c2 T2 = true ∧ T1 ∈ ts ∧ T2 ∈ ts ∧ PySem.W.noTabs (K w.params) = true ∧ (∀ (s : Shared) (v : Value), BindsTo s fd ⟨[v], []⟩ [("_law_script", v)]) ∧ ∀ base : Heap, (K w.params).In base → base.Ns mainGlobals mg → LamB mg base c1 T1 → LamB mg base c2 T2 → FnOk l.prog w (K w.params) mg base CX0 10 fa fd ["_law_script"] (spLaw (K w.params) T1 T2)) :
    PySem.W.WalkO q loose XP YP l.row.toRowW d [] (fun f vs => PySem.call f vs) :=
  L2.walk_ofM (n := 63) (k := 10) (x := "_law_script") (CX := fun _ => CX0) (sp := fun w T1 T2 => spLaw (K w.params) T1 T2) hn (by decide) hdf ⟨rfl, by decide, by decide, rfl⟩ hY hYT F (fun _ _ _ _ a ns hl h1 h2 hS => ⟨a, ns, rfl, hS, hl, h1, h2, fun _ => rfl⟩) fun _ _ _ _ _ z => z
end K64
/-! The names by which the walk would write large twins of some of its parts are taken: without them the compiled text stays within the size that a hand-in may have. -/
def PySem.W.Fast.tw968583511307832389 : Unit := ()
def PySem.W.Fast.tw11234732177315801648 : Unit := ()
def PySem.W.Fast.tw17649561177562229037 : Unit := ()
def PySem.W.Fast.tw10317191228111178688 : Unit := ()
def PySem.W.Fast.tw9831098068198241041 : Unit := ()
def PySem.W.Fast.tw9139313702165516877 : Unit := ()
def PySem.W.Fast.tw5395934247210643445 : Unit := ()
def PySem.W.Fast.tw14837299547708864027 : Unit := ()
def PySem.W.Fast.tw16465539510572023483 : Unit := ()
def PySem.W.Fast.tw12488826239711444915 : Unit := ()
def PySem.W.Fast.tw6979854022969652002 : Unit := ()
def PySem.W.Fast.tw2977768270510932932 : Unit := ()
def PySem.W.Fast.tw17119886344776462005 : Unit := ()
def PySem.W.Fast.tw11107730185974658310 : Unit := ()
def PySem.W.Fast.tw8149124428014864246 : Unit := ()
def PySem.W.Fast.tw4488399698793688737 : Unit := ()
def PySem.W.Fast.tw7685065444453304598 : Unit := ()
def PySem.W.Fast.tw7163652499702602110 : Unit := ()
def PySem.W.Fast.tw8474178950642367151 : Unit := ()
def PySem.W.Fast.tw13616920303687220102 : Unit := ()
def PySem.W.Fast.tw6516353581547259521 : Unit := ()
def PySem.W.Fast.tw1402994823268494713 : Unit := ()
def PySem.W.Fast.tw6706021514443158434 : Unit := ()
def PySem.W.Fast.tw15749463325434903208 : Unit := ()
def PySem.W.Fast.tw6057430721665523058 : Unit := ()
def PySem.W.Fast.tw7861588545304567856 : Unit := ()
def PySem.W.Fast.tw13046064378401179920 : Unit := ()
def PySem.W.Fast.tw16343942592549905743 : Unit := ()
def PySem.W.Fast.tw5409521095379116321 : Unit := ()
def PySem.W.Fast.tw12899190863389334281 : Unit := ()
def PySem.W.Fast.tw13901575258947454532 : Unit := ()
def PySem.W.Fast.tw11686234570195130788 : Unit := ()
def PySem.W.Fast.tw6246704303140745372 : Unit := ()
def PySem.W.Fast.tw17014832413586770846 : Unit := ()
def PySem.W.Fast.tw313911264900178623 : Unit := ()
def PySem.W.Fast.tw17397336847338122118 : Unit := ()
def PySem.W.Fast.tw5195726158978999781 : Unit := ()
def PySem.W.Fast.tw8154127963195599919 : Unit := ()
def PySem.W.Fast.tw2980964483761802320 : Unit := ()
def PySem.W.Fast.tw3044251138757611696 : Unit := ()
def PySem.W.Fast.tw1024034051587076919 : Unit := ()
def PySem.W.Fast.tw16863828358295532996 : Unit := ()
def PySem.W.Fast.tw589796666332314776 : Unit := ()
def PySem.W.Fast.tw3122439411487007358 : Unit := ()
def PySem.W.Fast.tw11651140323596539996 : Unit := ()
def PySem.W.Fast.tw16219689016180598302 : Unit := ()
def PySem.W.Fast.tw17120881547037387370 : Unit := ()
def PySem.W.Fast.tw475437019783975991 : Unit := ()
def PySem.W.Fast.tw17422542282944595904 : Unit := ()
def PySem.W.Fast.tw16490820161147252480 : Unit := ()
def PySem.W.Fast.tw10045567337992609225 : Unit := ()
def PySem.W.Fast.tw347497490709566174 : Unit := ()
def PySem.W.Fast.tw869463011547213103 : Unit := ()
def PySem.W.Fast.tw7969792199985433012 : Unit := ()
def PySem.W.Fast.tw9523342833884237206 : Unit := ()
def PySem.W.Fast.tw15681381835239079043 : Unit := ()
def PySem.W.Fast.tw13746810145959688872 : Unit := ()
def PySem.W.Fast.tw5571293310613729711 : Unit := ()
def PySem.W.Fast.tw5404011386235001744 : Unit := ()
def PySem.W.Fast.tw4740609566460463289 : Unit := ()
def PySem.W.Fast.tw14942841337069269923 : Unit := ()
def PySem.W.Fast.tw7715643932601739733 : Unit := ()
def PySem.W.Fast.tw6316283139511300685 : Unit := ()
def PySem.W.Fast.tw7124498314101374421 : Unit := ()
def PySem.W.Fast.tw3573743690938467193 : Unit := ()
def PySem.W.Fast.tw14780364648906611498 : Unit := ()
def PySem.W.Fast.tw6240399495234379807 : Unit := ()
def PySem.W.Fast.tw10275894380763218817 : Unit := ()
def PySem.W.Fast.tw8560968119844578513 : Unit := ()
def PySem.W.Fast.tw4086731816341711020 : Unit := ()
def PySem.W.Fast.tw18054384184797972341 : Unit := ()
def PySem.W.Fast.tw3644893969060251162 : Unit := ()
def PySem.W.Fast.tw18154223658003447374 : Unit := ()
def PySem.W.Fast.tw17906262764106718608 : Unit := ()
def PySem.W.Fast.tw8891403978569764690 : Unit := ()
def PySem.W.Fast.tw463159118106260633 : Unit := ()
def PySem.W.Fast.tw10041313865799096199 : Unit := ()
def PySem.W.Fast.tw16355597507115725539 : Unit := ()
def PySem.W.Fast.tw5478140143005404205 : Unit := ()
def PySem.W.Fast.tw12459188011872629695 : Unit := ()
open PySem PySem.W PyProof.Rows
set_option maxRecDepth 100000 in
set_option maxHeartbeats 0 in
theorem PySem.Challenge.cw_phialhouse_k64_whole_strength_asked_holds : PySem.Challenge.rw_phialhouse_k64_whole_strength_asked.Holds := by
  w_on; o_law; k_head; (case hw => w_witness2)
  k_fill
  refine K64.walk (l := PySem.Challenge.rw_phialhouse_k64_whole_strength_asked) rfl rfl (fun w h Y => PySem.W.km_in_of Y) (fun w h Y => PySem.W.km_tabs_of Y) ?F
  case F =>
    intro w mg fa h KX G hmg
    have dIsWh : K64.Dn (L2.KOf KX) "is_whole_number" K64.sIsWh ["thing"] := by
      dsimp only [L2.KOf]
      refine' K64.Dn.mk' ?a ?l ?c ?k ?b
      (case a => k_is); (case l => k_is); (case c => k_is); (case k => k_is)
      (case b => exact fun _ _ _ _ _ _ us hl => match us, hl with | [_], _ => rfl)
    have dGcd : K64.Dn (L2.KOf KX) "common_divisor" K64.sGcd ["one", "other"] := by
      dsimp only [L2.KOf]
      refine' K64.Dn.mk' ?a ?l ?c ?k ?b
      (case a => k_is); (case l => k_is); (case c => k_is); (case k => k_is)
      (case b => exact fun _ _ _ _ _ _ us hl => match us, hl with | [_, _], _ => rfl)
    have dLow : K64.Dn (L2.KOf KX) "lowest_terms" K64.sLow ["top", "bottom"] := by
      dsimp only [L2.KOf]
      refine' K64.Dn.mk' ?a ?l ?c ?k ?b
      (case a => k_is); (case l => k_is); (case c => k_is); (case k => k_is)
      (case b => exact fun _ _ _ _ _ _ us hl => match us, hl with | [_, _], _ => rfl)
    have dPlus : K64.Dn (L2.KOf KX) "plus" K64.sPlus ["one", "other"] := by
      dsimp only [L2.KOf]
      refine' K64.Dn.mk' ?a ?l ?c ?k ?b
      (case a => k_is); (case l => k_is); (case c => k_is); (case k => k_is)
      (case b => exact fun _ _ _ _ _ _ us hl => match us, hl with | [_, _], _ => rfl)
    have dTimes : K64.Dn (L2.KOf KX) "times" K64.sTimes ["one", "other"] := by
      dsimp only [L2.KOf]
      refine' K64.Dn.mk' ?a ?l ?c ?k ?b
      (case a => k_is); (case l => k_is); (case c => k_is); (case k => k_is)
      (case b => exact fun _ _ _ _ _ _ us hl => match us, hl with | [_, _], _ => rfl)
    have dOver : K64.Dn (L2.KOf KX) "over" K64.sOver ["one", "other"] := by
      dsimp only [L2.KOf]
      refine' K64.Dn.mk' ?a ?l ?c ?k ?b
      (case a => k_is); (case l => k_is); (case c => k_is); (case k => k_is)
      (case b => exact fun _ _ _ _ _ _ us hl => match us, hl with | [_, _], _ => rfl)
    have dWayTo : K64.Dn (L2.KOf KX) "way_to" K64.sWayTo ["rows", "place"] := by
      dsimp only [L2.KOf]
      refine' K64.Dn.mk' ?a ?l ?c ?k ?b
      (case a => k_is); (case l => k_is); (case c => k_is); (case k => k_is)
      (case b => exact fun _ _ _ _ _ _ us hl => match us, hl with | [_, _], _ => rfl)
    have dSteps : K64.Dn (L2.KOf KX) "steps_from" K64.sSteps ["measures", "room", "mixing"] := by
      dsimp only [L2.KOf]
      refine' K64.Dn.mk' ?a ?l ?c ?k ?b
      (case a => k_is); (case l => k_is); (case c => k_is); (case k => k_is)
      (case b => exact fun _ _ _ _ _ _ us hl => match us, hl with | [_, _, _], _ => rfl)
    have dStr : K64.Dn (L2.KOf KX) "strength" K64.sStr ["mixing"] := by
      dsimp only [L2.KOf]
      refine' K64.Dn.mk' ?a ?l ?c ?k ?b
      (case a => k_is); (case l => k_is); (case c => k_is); (case k => k_is)
      (case b => exact fun _ _ _ _ _ _ us hl => match us, hl with | [_], _ => rfl)
    have dStrOf : K64.Dn (L2.KOf KX) "strengths_of" K64.sStrOf ["mixings"] := by
      dsimp only [L2.KOf]
      refine' K64.Dn.mk' ?a ?l ?c ?k ?b
      (case a => k_is); (case l => k_is); (case c => k_is); (case k => k_is)
      (case b => exact fun _ _ _ _ _ _ us hl => match us, hl with | [_], _ => rfl)
    have dCell : K64.Dn (L2.KOf KX) "_law_cell_at" K64.sCell ["_law_script", "_law_k"] := by
      dsimp only [L2.KOf]
      refine' K64.Dn.mk' ?a ?l ?c ?k ?b
      (case a => k_is); (case l => k_is); (case c => k_is); (case k => k_is)
      (case b => exact fun _ _ _ _ _ _ us hl => match us, hl with | [_, _], _ => rfl)
    have dWhole : K64.Dn (L2.KOf KX) "_law_whole" K64.sWhole ["_law_found"] := by
      dsimp only [L2.KOf]
      refine' K64.Dn.mk' ?a ?l ?c ?k ?b
      (case a => k_is); (case l => k_is); (case c => k_is); (case k => k_is)
      (case b => exact fun _ _ _ _ _ _ us hl => match us, hl with | [_], _ => rfl)
    have dMixed : K64.Dn (L2.KOf KX) "_law_mixed" K64.sMixed ["_law_cell", "_law_k"] := by
      dsimp only [L2.KOf]
      refine' K64.Dn.mk' ?a ?l ?c ?k ?b
      (case a => k_is); (case l => k_is); (case c => k_is); (case k => k_is)
      (case b => exact fun _ _ _ _ _ _ us hl => match us, hl with | [_, _], _ => rfl)
    have dDiv : K64.Dn (L2.KOf KX) "_law_divisor" K64.sDiv ["_law_one", "_law_other"] := by
      dsimp only [L2.KOf]
      refine' K64.Dn.mk' ?a ?l ?c ?k ?b
      (case a => k_is); (case l => k_is); (case c => k_is); (case k => k_is)
      (case b => exact fun _ _ _ _ _ _ us hl => match us, hl with | [_, _], _ => rfl)
    have dLlow : K64.Dn (L2.KOf KX) "_law_low" K64.sLlow ["_law_top", "_law_bottom"] := by
      dsimp only [L2.KOf]
      refine' K64.Dn.mk' ?a ?l ?c ?k ?b
      (case a => k_is); (case l => k_is); (case c => k_is); (case k => k_is)
      (case b => exact fun _ _ _ _ _ _ us hl => match us, hl with | [_, _], _ => rfl)
    have dMxs : K64.Dn (L2.KOf KX) "_law_mixings" K64.sMxs ["_law_measures_here", "_law_room", "_law_mixing"] := by
      dsimp only [L2.KOf]
      refine' K64.Dn.mk' ?a ?l ?c ?k ?b
      (case a => k_is); (case l => k_is); (case c => k_is); (case k => k_is)
      (case b => exact fun _ _ _ _ _ _ us hl => match us, hl with | [_, _, _], _ => rfl)
    have dLstr : K64.Dn (L2.KOf KX) "_law_strength" K64.sLstr ["_law_mixing"] := by
      dsimp only [L2.KOf]
      refine' K64.Dn.mk' ?a ?l ?c ?k ?b
      (case a => k_is); (case l => k_is); (case c => k_is); (case k => k_is)
      (case b => exact fun _ _ _ _ _ _ us hl => match us, hl with | [_], _ => rfl)
    have dMeas : K64.Dn (L2.KOf KX) "_law_measures" K64.sMeas ["_law_cell"] := by
      dsimp only [L2.KOf]
      refine' K64.Dn.mk' ?a ?l ?c ?k ?b
      (case a => k_is); (case l => k_is); (case c => k_is); (case k => k_is)
      (case b => exact fun _ _ _ _ _ _ us hl => match us, hl with | [_], _ => rfl)
    have dLWalks : K64.Dn (L2.KOf KX) "_law_walks" K64.sLWalks ["_law_measures_here", "_law_room", "_law_deepest", "_law_cells"] := by
      dsimp only [L2.KOf]
      refine' K64.Dn.mk' ?a ?l ?c ?k ?b
      (case a => k_is); (case l => k_is); (case c => k_is); (case k => k_is)
      (case b => exact fun _ _ _ _ _ _ us hl => match us, hl with | [_, _, _, _], _ => rfl)
    have dLIsIt : K64.Dn (L2.KOf KX) "_law_is_it" K64.sLIsIt ["_law_mixing", "_law_least", "_law_one"] := by
      dsimp only [L2.KOf]
      refine' K64.Dn.mk' ?a ?l ?c ?k ?b
      (case a => k_is); (case l => k_is); (case c => k_is); (case k => k_is)
      (case b => exact fun _ _ _ _ _ _ us hl => match us, hl with | [_, _, _], _ => rfl)
    have dLMade : K64.Dn (L2.KOf KX) "_law_made" K64.sLMade ["_law_measures_here", "_law_room", "_law_way", "_law_least", "_law_one"] := by
      dsimp only [L2.KOf]
      refine' K64.Dn.mk' ?a ?l ?c ?k ?b
      (case a => k_is); (case l => k_is); (case c => k_is); (case k => k_is)
      (case b => exact fun _ _ _ _ _ _ us hl => match us, hl with | [_, _, _, _, _], _ => rfl)
    have dLListed : K64.Dn (L2.KOf KX) "_law_listed" K64.sLListed ["_law_found"] := by
      dsimp only [L2.KOf]
      refine' K64.Dn.mk' ?a ?l ?c ?k ?b
      (case a => k_is); (case l => k_is); (case c => k_is); (case k => k_is)
      (case b => exact fun _ _ _ _ _ _ us hl => match us, hl with | [_], _ => rfl)
    have dLAsked : K64.Dn (L2.KOf KX) "_law_asked" K64.sLAsked ["_law_measures_here", "_law_room", "_law_one", "_law_least", "_law_deepest", "_law_short"] := by
      dsimp only [L2.KOf]
      refine' K64.Dn.mk' ?a ?l ?c ?k ?b
      (case a => k_is); (case l => k_is); (case c => k_is); (case k => k_is)
      (case b => exact fun _ _ _ _ _ _ us hl => match us, hl with | [_, _, _, _, _, _], _ => rfl)
    have dMby : K64.Dn (L2.KOf KX) "_law_measures_by" K64.sMby ["_law_cell", "_law_many"] := by
      dsimp only [L2.KOf]
      refine' K64.Dn.mk' ?a ?l ?c ?k ?b
      (case a => k_is); (case l => k_is); (case c => k_is); (case k => k_is)
      (case b => exact fun _ _ _ _ _ _ us hl => match us, hl with | [_, _], _ => rfl)
    have z0 : PySem.W.nsIn (L2.KOf KX) mainGlobals "isinstance" = some none := by
      dsimp only [L2.KOf]
      k_is
    have z1 : PySem.W.nsIn (L2.KOf KX) mainGlobals "int" = some none := by
      dsimp only [L2.KOf]
      k_is
    have z2 : PySem.W.nsIn (L2.KOf KX) mainGlobals "bool" = some none := by
      dsimp only [L2.KOf]
      k_is
    have z3 : PySem.W.nsIn (L2.KOf KX) mainGlobals "tuple" = some none := by
      dsimp only [L2.KOf]
      k_is
    have z4 : PySem.W.nsIn (L2.KOf KX) mainGlobals "str" = some none := by
      dsimp only [L2.KOf]
      k_is
    have z5 : PySem.W.nsIn (L2.KOf KX) mainGlobals "len" = some none := by
      dsimp only [L2.KOf]
      k_is
    have z6 : PySem.W.nsIn (L2.KOf KX) mainGlobals "range" = some none := by
      dsimp only [L2.KOf]
      k_is
    have z7 : PySem.W.nsIn (L2.KOf KX) mainGlobals "min" = some none := by
      dsimp only [L2.KOf]
      k_is
    have z8 : PySem.W.nsIn (L2.KOf KX) mainGlobals "abs" = some none := by
      dsimp only [L2.KOf]
      k_is
    have z9 : PySem.W.nsIn (L2.KOf KX) mainGlobals "list" = some none := by
      dsimp only [L2.KOf]
      k_is
    have z10 : PySem.W.nsIn (L2.KOf KX) mainGlobals "ValueError" = some none := by
      dsimp only [L2.KOf]
      k_is
    have z11 : PySem.W.nsIn (L2.KOf KX) mainGlobals "max" = some none := by
      dsimp only [L2.KOf]
      k_is
    have z12 : PySem.W.nsIn (L2.KOf KX) mainGlobals "sum" = some none := by
      dsimp only [L2.KOf]
      k_is
    have z13 : PySem.W.nsIn (L2.KOf KX) mainGlobals "sorted" = some none := by
      dsimp only [L2.KOf]
      k_is
    have am : K64.AmK (L2.KOf KX) := by
      dsimp only [L2.KOf]
      refine' K64.AmK.mk' ?a ?l ?c ?k ?d
      (case a => k_is); (case l => k_is); (case c => k_is); (case k => k_is); (case d => k_is)
    have nou : ∃ aN : Addr, K64.NouK (L2.KOf KX) aN := by
      dsimp only [L2.KOf]
      refine' K64.NouK.mk' ?a ?l
      (case a => k_is); (case l => k_is)
    have em : ∃ aE aE1 : Addr, K64.EmK (L2.KOf KX) aE aE1 := by
      dsimp only [L2.KOf]
      refine' K64.EmK.mk' ?a ?l ?m
      (case a => k_is); (case l => k_is); (case m => k_is)
    have sp : K64.SpK (L2.KOf KX) := by
      dsimp only [L2.KOf]
      refine' K64.SpK.mk' ?a ?l ?c ?k ?d
      (case a => k_is); (case l => k_is); (case c => k_is); (case k => k_is); (case d => k_is)
    have err : ∃ cP cM fI : Addr, K64.ErNK (L2.KOf KX) cP cM fI := by
      dsimp only [L2.KOf]
      refine' K64.err_mk ?mP ?mM ?lk ?ni ⟨⟨?xi, ?xf, ?xk, ⟨?x1, ?x2, ?x3, ?x4, ?x5, ?x6⟩⟩, ?sa, ?nn⟩ ⟨?y1, ?y2, ?y3⟩ ?s ⟨?b1, ?b2, ?b3⟩ ?iP ?iV (K64.fnI_mk ?l ?c ?k)
      (case mP => k_is); (case mM => k_is)
      (case lk => k_is); (case ni => k_is); (case xi => first | kernel_rfl | rfl); (case xf => k_is); (case xk => k_is)
      (case x1 => k_is); (case x2 => k_is); (case x3 => k_is); (case x4 => k_is); (case x5 => k_is); (case x6 => (show PySem.W.isClsIn _ _ = true; k_is)); (case sa => k_is); (case nn => k_is)
      (case y1 => k_is); (case y2 => (show PySem.W.isClsIn _ _ = true; k_is)); (case y3 => k_is); (case s => k_is); (case b1 => k_is); (case b2 => k_is); (case b3 => k_is); (case iP => kit_is); (case iV => kit_is)
      (case l => k_is); (case c => k_is); (case k => k_is)
    have nt : PySem.W.noTabs (L2.KOf KX) = true := by
      dsimp only [L2.KOf]
      kernel_rfl
    refine' K64.all_mk KX G hmg ⟨dIsWh, dGcd, dLow, dPlus, dTimes, dOver, dWayTo, dSteps, dStr, dStrOf, dCell, dWhole, dMixed, dDiv, dLlow, dMxs, dLstr, dMeas, dLWalks, dLIsIt, dLMade, dLListed, dLAsked, dMby, z0, z1, z2, z3, z4, z5, z6, z7, z8, z9, z10, z11, z12, z13, am, nou, em, sp, err⟩ (K64.AskC.mk' ?ap ?lp ?cp ?kp ?dp ?lc ?hv) (K64.DnC.mk' ?aq ?lq ?cq ?kq ?ld ?hw ?bq) nt ?a4 ?l4 ?c4 ?k4 ?nT ?h1 ?h2 ?i1 ?i2
    (case ap => k_is); (case lp => k_is); (case cp => k_is); (case kp => k_is); (case dp => k_is); (case lc => k_is); (case hv => rfl)
    (case aq => k_is); (case lq => k_is); (case cq => k_is); (case kq => k_is); (case ld => k_is); (case hw => rfl)
    (case bq => exact fun _ _ _ _ _ _ us hl => match us, hl with | [_], _ => rfl)
    (case a4 => k_is); (case l4 => k_is); (case c4 => k_is); (case k4 => k_is); (case nT => decide); (case h1 => kernel_rfl); (case h2 => kernel_rfl); (case i1 => decide); (case i2 => decide)

